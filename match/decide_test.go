package match_test

import (
	"fmt"
	"math"
	"slices"
	"strings"
	"testing"

	"marquetry/api"
	"marquetry/match"
)

// leads fails if a tree leads elsewhere for a pattern, or to other patterns.
func leads(t *testing.T, tree api.Tree, p api.TPat, n int, l ...api.TPat) {
	t.Helper()
	if got, bound := match.Decide(tree, p); got != n || !samePats(bound, l) {
		t.Errorf("%.300s of %.300s: %d, %.300s, not %d, %.300s", fmt.Sprintf("%+v", p), fmt.Sprintf("%+v", tree), got, fmt.Sprintf("%+v", bound), n, fmt.Sprintf("%+v", l))
	}
}

// TestP12_2_Leaves: leaves and fails, and what a leaf binds.
func TestP12_2_Leaves(t *testing.T) {
	p := rec("a b", tag("A", rec("c", num(5))), text("s"))
	leads(t, fail, p, -1)
	leads(t, leaf(0), p, 0)
	leads(t, leaf(7, bind(1, "")), p, 7, p)
	leads(t, leaf(2, bind(9, "b"), bind(3, "a"), bind(3, "a -"), bind(3, "a - c"), bind(3, "b")), p, 2, text("s"), tag("A", rec("c", num(5))), rec("c", num(5)), num(5), text("s"))
	// Any number may be a leaf's, as it was not made by Compile.
	for _, n := range []int{-1, -2, 63, 64, math.MaxInt, math.MinInt} {
		leads(t, leaf(n, bind(1, "b")), p, n, text("s"))
	}
	// What is there may be anything.
	for _, q := range []api.TPat{wild, unit, x(4), num(-1), truth(1), exn("E"), tag("A", wild), rec("")} {
		leads(t, leaf(1, bind(1, "")), q, 1, q)
		leads(t, leaf(1, bind(1, "-")), tag("A", q), 1, q)
		leads(t, leaf(1, bind(1, "k")), rec("j k l", wild, q, wild), 1, q)
	}
	// The other fields are not a leaf's.
	odd := leaf(3, bind(1, "b"))
	odd.Path, odd.Branches, odd.Else = path("q"), []api.Branch{on(wild, fail)}, []api.Tree{fail, fail}
	leads(t, odd, p, 3, text("s"))
	odd.Kind = api.TreeFail
	leads(t, odd, p, -1)
}

// TestP12_2_Nothing: where a path leads to nothing, in a test and in a leaf.
func TestP12_2_Nothing(t *testing.T) {
	p := rec("a b", tag("A", rec("c", num(5))), text("s"))
	for _, at := range []string{"-", "c", "a -", "a - c", "a b", "b -", "b a", "a - -", "a - c c", "a - c -", "A", "aa"} {
		there := at == "a -" || at == "a - c"
		n, m := -1, -1
		if there {
			n, m = 4, 3
		}
		for _, tree := range []api.Tree{test(at, leaf(4)), test(at, leaf(4), on(num(9), fail)), test(at, test(at, leaf(4)), on(text("s"), fail)), test("b", fail, on(text("s"), test(at, leaf(4)))), test("b", test(at, leaf(4)))} {
			leads(t, tree, p, n)
		}
		if got, bound := match.Decide(leaf(3, bind(1, "b"), bind(2, at), bind(3, "b")), p); got != m || there != (len(bound) == 3) || !there && len(bound) != 0 {
			t.Errorf("%s: %d, %+v", at, got, bound)
		}
	}
	for _, q := range []api.TPat{wild, unit, x(4), num(1), text("a"), truth(1), exn("a")} {
		leads(t, test("a", leaf(4)), q, -1)
		leads(t, test("-", leaf(4)), q, -1)
		leads(t, leaf(4, bind(1, "a")), q, -1)
		leads(t, leaf(4, bind(1, "-")), q, -1)
	}
	leads(t, test("a", leaf(4)), tag("a", num(1)), -1)
	leads(t, test("-", leaf(4)), rec("a", num(1)), -1)
	leads(t, leaf(4, bind(1, "a")), rec(""), -1)
}

// TestP12_2_Branches: each constant and tag at a test, with each as a branch.
func TestP12_2_Branches(t *testing.T) {
	few := []api.TPat{num(0), num(1), num(-1 << 62), truth(0), truth(1), text(""), text("A"), text("B"), exn("A"), exn("B"), unit, tag("A", wild), tag("B", wild)}
	for i, b := range few {
		for j, p := range few {
			n := 5
			if i == j {
				n = 4
			}
			leads(t, test("", leaf(5), on(b, leaf(4))), p, n)
			leads(t, test("k", leaf(5), on(b, leaf(4)), on(b, leaf(6))), rec("j k", b, p), n) // The first one.
			leads(t, test("-", leaf(5), on(num(77), leaf(6)), on(text("z"), leaf(7)), on(b, leaf(4)), on(b, leaf(8))), tag("A", p), n)
		}
		// What is neither a constant nor tagged goes on with Else, whatever branch there is.
		for _, p := range []api.TPat{wild, x(0), x(3), rec(""), rec("a", b)} {
			leads(t, test("", leaf(5, bind(1, "")), on(b, leaf(4))), p, 5, p)
			leads(t, test("k", leaf(5), on(b, leaf(4))), rec("k", p), 5)
		}
	}
	// Of a branch's tag only Kind and S count, and what is tagged does not.
	for _, b := range []api.TPat{tag("A", num(1)), {Kind: api.PTag, S: "A", V: 3}, {Kind: api.PTag, S: "A", N: -1}, {Kind: api.PTag, S: "A", Labels: []string{"l"}, Args: []api.TPat{wild, wild}}} {
		tree := api.Tree{Kind: api.TreeTest, Branches: []api.Branch{{P: b, T: leaf(1, bind(2, "-"))}}, Else: []api.Tree{fail}}
		leads(t, tree, tag("A", num(1)), 1, num(1))
		leads(t, tree, tag("A", tag("B", unit)), 1, tag("B", unit))
		leads(t, tree, tag("B", num(1)), -1)
	}
}

// TestP12_2_Paths: all paths lead from the whole pattern, however it was come to them.
func TestP12_2_Paths(t *testing.T) {
	p := rec("a b", tag("A", rec("a b", num(1), num(2))), rec("a", num(3)))
	leads(t, test("a", fail, on(tag("A", wild), test("b a", fail, on(num(3), test("a - b", fail, on(num(2), leaf(6, bind(1, "a - a"), bind(2, "b")))))))), p, 6, num(1), rec("a", num(3)))
	leads(t, test("b", test("a", leaf(1), on(tag("B", wild), leaf(2))), on(num(3), leaf(3))), p, 1)
	// The same test may come again.
	leads(t, test("b a", fail, on(num(3), test("b a", fail, on(num(4), fail), on(num(3), leaf(9))))), p, 9)
}

// TestP12_2_Else: a test without exactly one Else, and trees of other kinds, first and later.
func TestP12_2_Else(t *testing.T) {
	one := leaf(1, bind(1, ""))
	for n := range 5 {
		tree := test("", one, on(num(1), leaf(2)))
		tree.Else = []api.Tree{one, one, one, one}[:n]
		for _, p := range []api.TPat{num(1), num(2), rec("")} {
			want, bound := -1, []api.TPat(nil)
			switch {
			case n == 1 && p.N == 1:
				want = 2
			case n == 1:
				want, bound = 1, []api.TPat{p}
			}
			leads(t, tree, p, want, bound...)
			leads(t, test("", tree), p, want, bound...)
			leads(t, test("", tree, on(num(1), tree)), p, want, bound...)
		}
	}
	for _, kind := range []int{0, -1, 4, math.MaxInt, math.MinInt, 1<<32 + api.TreeLeaf, 1<<32 + api.TreeTest} {
		for _, tree := range []api.Tree{leaf(1), test("", leaf(1)), {}} {
			tree.Kind = kind
			leads(t, tree, num(1), -1)
			leads(t, test("", tree), num(1), -1)
			leads(t, test("", leaf(1), on(num(1), tree)), num(1), -1)
		}
	}
}

// TestP12_2_Broken: patterns that are not valid have nothing where something is missing: a label leads into records alone, and
// the empty string into what is tagged.
func TestP12_2_Broken(t *testing.T) {
	for _, p := range []api.TPat{
		{}, {Kind: 99}, {Kind: api.PTag, S: "A"}, {Kind: api.PRecord, Labels: []string{"a"}}, {Kind: api.PRecord, Args: []api.TPat{wild}}, {Kind: api.PRecord, Labels: []string{"b", "a"}, Args: []api.TPat{wild}},
		{Kind: api.PRecord, Labels: []string{""}, Args: []api.TPat{wild}}, {Kind: api.PAny, Labels: []string{"a", ""}, Args: []api.TPat{wild, wild}}, {Kind: api.PExn, S: "E", Labels: []string{"a"}, Args: []api.TPat{wild}},
	} {
		for _, at := range []string{"a", "-", "a a", "- -"} {
			leads(t, test(at, leaf(0)), p, -1)
			leads(t, leaf(0, bind(1, at)), p, -1)
			leads(t, test("", test(at, leaf(0)), on(tag("A", wild), test(at, leaf(0)))), p, -1)
		}
	}
	odd := api.TPat{Kind: api.PTag, S: "A", Labels: []string{"a"}, Args: []api.TPat{wild}}
	leads(t, test("a", leaf(0)), odd, -1)
	leads(t, leaf(0, bind(1, "a")), odd, -1)
	leads(t, leaf(0, bind(1, "-")), odd, 0, wild)
}

// at returns what is at a path, if there is anything.
func at(p api.TPat, path []string) (api.TPat, bool) {
	if len(path) == 0 {
		return p, true
	}
	if path[0] == "" {
		if p.Kind != api.PTag {
			return api.TPat{}, false
		}
		return at(p.Args[0], path[1:])
	}
	i := slices.Index(p.Labels, path[0])
	if p.Kind != api.PRecord || i < 0 {
		return api.TPat{}, false
	}
	return at(p.Args[i], path[1:])
}

// decided returns what Decide should return, and the leaf.
func decided(t api.Tree, p api.TPat) (int, []api.TPat, api.Tree) {
	none := api.Tree{}
	switch {
	case t.Kind == api.TreeLeaf:
		var l []api.TPat
		for _, b := range t.Binds {
			q, ok := at(p, b.Path)
			if !ok {
				return -1, nil, none
			}
			l = append(l, q)
		}
		return t.Case, l, t
	case t.Kind == api.TreeTest && len(t.Else) == 1:
		q, ok := at(p, t.Path)
		if !ok {
			return -1, nil, none
		}
		for _, b := range t.Branches {
			constant := q.Kind != api.PAny && q.Kind != api.PVar && q.Kind != api.PRecord
			if constant && b.P.Kind == q.Kind && b.P.S == q.S && (q.Kind == api.PTag || b.P.N == q.N) {
				return decided(b.T, p)
			}
		}
		return decided(t.Else[0], p)
	}
	return -1, nil, none
}

// tree returns a tree that Compile need not have made, but whose branches are for constants and tags.
func (m *maker) tree(depth int) api.Tree {
	step := func() []string {
		return path(strings.Join([]string{pick(m, "", "", "a", "b", "-"), pick(m, "", "", "", "a", "-"), pick(m, "", "", "", "b", "-")}, " "))
	}
	if m.Intn(4) == 0 || depth == 0 {
		t := leaf(m.Intn(9))
		for range m.Intn(3) {
			t.Binds = append(t.Binds, api.Bind{V: m.Intn(9), Path: step()})
		}
		return pick(m, t, t, t, t, fail, api.Tree{Kind: m.Intn(9)})
	}
	t := api.Tree{Kind: api.TreeTest, Path: step()}
	for range m.Intn(4) {
		p := m.constant()
		if m.Intn(2) == 0 {
			p = api.TPat{Kind: api.PTag, S: pick(m, "A", "B"), N: m.Int63n(2)}
		}
		t.Branches = append(t.Branches, api.Branch{P: p, T: m.tree(depth - 1)})
	}
	for range pick(m, 1, 1, 1, 1, 1, 1, 1, 1, 0, 2) {
		t.Else = append(t.Else, m.tree(depth-1))
	}
	return t
}

// TestP12_2_Model: trees of any form, and those of patterns, with patterns that heed no type.
func TestP12_2_Model(t *testing.T) {
	m := newMaker(1221)
	ways, bound := map[int]int{}, 0
	for range 30000 {
		tree := m.tree(4)
		if m.Intn(3) == 0 {
			tree, _ = match.Compile(m.list())
		}
		for range 5 {
			p := m.pattern(4)
			n, l, _ := decided(tree, p)
			leads(t, tree, p, n, l...)
			ways[n]++
			bound += len(l)
		}
	}
	if ways[-1] < 1000 || ways[0] < 1000 || ways[8] < 500 || bound < 1000 {
		t.Errorf("%v, %d bound", ways, bound)
	}
}
