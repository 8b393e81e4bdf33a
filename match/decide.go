package match

import (
	"slices"
	"strings"

	"marquetry/api"
)

// leafFor returns the leaf to which a tree leads for a pattern, or nil. A tree that contains itself may lead round and round:
// ever less often a place on the way is kept, so that at last it comes back to that one.
func leafFor(t *api.Tree, x *api.TPat) *api.Tree {
	kept, tests := t, 0
	for t.Kind == api.TreeTest && len(t.Else) == 1 {
		p := follow(x, t.Path)
		if p == nil {
			return nil
		}
		t = next(t, p)
		if t == kept {
			return nil
		}
		tests++
		if tests&(tests-1) == 0 {
			kept = t
		}
	}
	if t.Kind != api.TreeLeaf {
		return nil
	}
	return t
}

// next returns the tree with which a test goes on if a pattern is at its path.
func next(t *api.Tree, p *api.TPat) *api.Tree {
	for i := range t.Branches {
		if chosen(&t.Branches[i].P, p) {
			return &t.Branches[i].T
		}
	}
	return &t.Else[0]
}

// chosen reports whether a pattern is the constant of a branch, or has its tag.
func chosen(branch, p *api.TPat) bool {
	switch p.Kind {
	case api.PInt, api.PString, api.PBool, api.PUnit, api.PExn:
		return branch.Kind == p.Kind && branch.N == p.N && branch.S == p.S
	case api.PTag:
		return branch.Kind == p.Kind && branch.S == p.S
	}
	return false
}

// follow returns what is at a path in a pattern, or nil if there is nothing.
func follow(p *api.TPat, path []string) *api.TPat {
	for _, step := range path {
		i := -1
		switch {
		case step == "" && p.Kind == api.PTag:
			i = 0
		case step != "" && p.Kind == api.PRecord:
			i = slices.Index(p.Labels, step)
		}
		if i < 0 || i >= len(p.Args) {
			return nil
		}
		p = &p.Args[i]
	}
	return p
}

// detached returns a pattern in memory of its own.
func detached(p api.TPat) api.TPat {
	p.S, p.Labels, p.Args = strings.Clone(p.S), slices.Clone(p.Labels), slices.Clone(p.Args)
	for i, l := range p.Labels {
		p.Labels[i] = strings.Clone(l)
	}
	for i, a := range p.Args {
		p.Args[i] = detached(a)
	}
	return p
}
