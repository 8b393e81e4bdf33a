package anf

import (
	"marquetry/api"
	"marquetry/match"
)

// mostSteps bounds how long the paths may be that the tree of a match tests: as a tree repeats them, it would need too many parts
// of a program otherwise.
const mostSteps = 16

// A decision is between cases of a match.
type decision struct {
	tree   api.Tree
	cases  []api.Case
	leaves [][]*api.Tree // for each case those that lead there
}

// decisionsOf returns the decisions that are taken one after the other, as long as they fail: one between all cases; or, if the
// paths in its tree are too long, one for each case.
func decisionsOf(cases []api.Case) []decision {
	all := decisionOf(cases)
	if longest(&all.tree) <= mostSteps {
		return []decision{all}
	}
	var l []decision
	for i := range cases {
		l = append(l, decisionOf(cases[i:i+1]))
	}
	return l
}

// decisionOf returns the decision between cases.
func decisionOf(cases []api.Case) decision {
	var l []api.TPat
	for _, c := range cases {
		l = append(l, c.P)
	}
	t, errno := match.Compile(l)
	need(errno == api.OK, errno)
	d := decision{tree: t, cases: cases, leaves: make([][]*api.Tree, len(cases))}
	d.gather(&t)
	return d
}

// gather adds the leaves of a tree.
func (d *decision) gather(t *api.Tree) {
	switch t.Kind {
	case api.TreeLeaf:
		d.leaves[t.Case] = append(d.leaves[t.Case], t)
	case api.TreeTest:
		for i := range t.Branches {
			d.gather(&t.Branches[i].T)
		}
		d.gather(&t.Else[0])
	}
}

// reached returns how many cases have leaves.
func (d *decision) reached() int {
	n := 0
	for _, l := range d.leaves {
		n += min(1, len(l))
	}
	return n
}

// longest returns how long the longest path is that a tree tests.
func longest(t *api.Tree) int {
	if t.Kind != api.TreeTest {
		return 0
	}
	n := max(len(t.Path), longest(&t.Else[0]))
	for i := range t.Branches {
		n = max(n, longest(&t.Branches[i].T))
	}
	return n
}
