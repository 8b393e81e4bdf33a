package match_test

import (
	"fmt"
	"slices"
	"strconv"
	"testing"

	"marquetry/api"
	"marquetry/eval"
	"marquetry/match"
	"marquetry/resolve"
)

// matches reports whether a pattern matches data by chapter 9, and adds what its variables are bound to. Where the evaluation
// would be stuck it panics.
func matches(p, data api.TPat, bound map[int]api.TPat) bool {
	switch p.Kind {
	case api.PAny:
		return true
	case api.PVar:
		bound[p.V] = data
		return true
	}
	if p.Kind != data.Kind {
		panic("data of another kind")
	}
	switch p.Kind {
	case api.PTag:
		return p.S == data.S && matches(p.Args[0], data.Args[0], bound)
	case api.PRecord:
		for i, label := range p.Labels {
			if !matches(p.Args[i], data.Args[slices.Index(data.Labels, label)], bound) {
				return false
			}
		}
		return true
	}
	return p.N == data.N && p.S == data.S
}

// firstMatch returns the case that matches data first, or -1, and what is bound.
func firstMatch(l []api.TPat, data api.TPat) (int, map[int]api.TPat) {
	for i, p := range l {
		bound := map[int]api.TPat{}
		if matches(p, data, bound) {
			return i, bound
		}
	}
	return -1, nil
}

// means fails if the tree of some patterns does not lead to the case that matches data first, and to what that binds.
func means(t *testing.T, l []api.TPat, tree api.Tree, data api.TPat) int {
	t.Helper()
	want, bound := firstMatch(l, data)
	got, values := match.Decide(tree, data)
	_, _, end := decided(tree, data)
	if got != want || len(values) != len(bound) || got >= 0 && len(end.Binds) != len(bound) {
		t.Fatalf("%+v of %+v: %d, not %d; %v, not %v", data, l, got, want, values, bound)
	}
	for i, v := range values {
		if b, ok := bound[end.Binds[i].V]; !ok || !samePats([]api.TPat{v}, []api.TPat{b}) {
			t.Fatalf("%+v of %+v: %d is %+v, not %+v", data, l, end.Binds[i].V, v, b)
		}
	}
	return got
}

// once fails if a path is tested twice on the way to a leaf.
func once(t *testing.T, tree api.Tree, before [][]string) {
	t.Helper()
	if tree.Kind != api.TreeTest {
		return
	}
	if slices.ContainsFunc(before, func(p []string) bool { return slices.Equal(p, tree.Path) }) {
		t.Fatalf("%q is tested twice", tree.Path)
	}
	before = append(slices.Clone(before), tree.Path)
	for _, b := range tree.Branches {
		once(t, b.T, before)
	}
	once(t, tree.Else[0], before)
}

// A sort is a type of data.
type sort struct {
	kind int
	of   map[string]sort // by labels or tags
}

func (m *maker) sort(depth int) sort {
	if depth == 0 || m.Intn(5) == 0 {
		return sort{kind: pick(m, api.PInt, api.PString, api.PBool, api.PUnit, api.PExn)}
	}
	s := sort{kind: api.PTag, of: map[string]sort{}}
	names := []string{"A", "B", "C"}
	if m.Intn(2) == 0 {
		s.kind, names = api.PRecord, []string{"a", "b", "c", "d"}
	}
	for _, name := range names[:1+m.Intn(len(names))] {
		s.of[name] = m.sort(depth - 1)
	}
	return s
}

// names returns some or all of a sort's labels or tags, in any order.
func (m *maker) names(s sort, all bool) []string {
	var l []string
	for name := range s.of {
		l = append(l, name)
	}
	slices.Sort(l)
	m.Shuffle(len(l), func(i, j int) { l[i], l[j] = l[j], l[i] })
	if !all {
		l = l[:m.Intn(len(l)+1)]
	}
	return l
}

// one returns data of a sort, or a pattern for such data.
func (m *maker) one(s sort, data bool) api.TPat {
	if !data && m.Intn(4) == 0 {
		return pick(m, wild, m.variable())
	}
	switch s.kind {
	case api.PInt:
		return num(m.Int63n(3))
	case api.PString:
		return text(pick(m, "", "a", "b"))
	case api.PBool:
		return truth(m.Int63n(2))
	case api.PExn:
		return exn(pick(m, "E", "F", "G"))
	case api.PTag:
		name := m.names(s, true)[0]
		return tag(name, m.one(s.of[name], data))
	case api.PRecord:
		p := rec("")
		for _, name := range m.names(s, data) {
			p.Labels = append(p.Labels, name)
			p.Args = append(p.Args, m.one(s.of[name], data))
		}
		return p
	}
	return unit
}

// term returns the term that evaluates to data.
func term(data api.TPat) api.Term {
	kinds := map[int]int{api.PInt: api.TInt, api.PString: api.TString, api.PBool: api.TBool, api.PUnit: api.TUnit, api.PExn: api.TExn, api.PTag: api.TTag, api.PRecord: api.TRecord}
	t := api.Term{Kind: kinds[data.Kind], N: data.N, S: data.S, Labels: data.Labels}
	for _, a := range data.Args {
		t.Args = append(t.Args, term(a))
	}
	return t
}

// evaluated fails if the evaluation of a match of data does not come to a case.
func evaluated(t *testing.T, l []api.TPat, data api.TPat, n int) {
	t.Helper()
	m := api.Term{Kind: api.TMatch, Args: []api.Term{term(data)}}
	for i, p := range l {
		m.Cases = append(m.Cases, api.Case{P: p, Body: api.Term{Kind: api.TInt, N: int64(i)}})
	}
	want := "raise Match"
	if n >= 0 {
		want = strconv.Itoa(n)
	}
	if o := eval.Run(m, "", 100000); !resolve.May(m) || o.Kind != api.Done || o.Result != want {
		t.Fatalf("%+v of %+v: %+v, not %s", data, l, o, want)
	}
}

// TestP12_3_First: random patterns of random types, with random data.
func TestP12_3_First(t *testing.T) {
	m := newMaker(1231)
	cases, vars, tests := map[int]int{}, 0, 0
	for range 20000 {
		s := m.sort(m.Intn(4))
		var l []api.TPat
		m.next = 0
		for range 1 + m.Intn(6) {
			l = append(l, m.one(s, false))
		}
		tree, e := agrees(t, l)
		if e != api.OK {
			continue
		}
		once(t, tree, nil)
		tests += size(tree) / 3
		for range 4 {
			data := m.one(s, true)
			n := means(t, l, tree, data)
			evaluated(t, l, data, n)
			cases[n]++
		}
		vars += m.next
	}
	for n := -1; n < 6; n++ {
		if cases[n] < 100 {
			t.Errorf("%d: %d times", n, cases[n])
		}
	}
	if vars < 1000 || tests < 10000 {
		t.Errorf("%d variables, %d tests", vars, tests)
	}
}

// TestP12_3_All: each list of at most three patterns out of a few of one type, with all data of it.
func TestP12_3_All(t *testing.T) {
	var all []api.TPat
	for _, b := range []api.TPat{num(0), num(1), num(2)} {
		for _, a := range []api.TPat{tag("A", rec("c", truth(0))), tag("A", rec("c", truth(1))), tag("B", unit), tag("C", exn("E"))} {
			all = append(all, rec("a b", a, b), rec("b a", b, a))
		}
	}
	few := []api.TPat{
		wild, x(1), rec(""), rec("b", num(1)), rec("b", x(1)), rec("a", tag("B", wild)), rec("a", tag("B", unit)), rec("a", tag("A", x(1))), rec("a b", tag("A", wild), num(0)), rec("b a", num(0), tag("A", rec("c", truth(1)))),
		rec("a b", tag("A", rec("c", x(1))), num(1)), rec("b a", x(1), tag("B", x(2))), rec("a b", tag("C", exn("E")), num(1)), rec("b a", num(1), tag("C", exn("F"))), rec("a", tag("A", rec("c", truth(0)))), rec("a b", x(1), num(2)),
	}
	check := func(l ...api.TPat) {
		tree := compiled(t, l...)
		once(t, tree, nil)
		for _, data := range all {
			means(t, l, tree, data)
		}
	}
	for _, p := range few {
		check(p)
		for _, q := range few {
			check(p, q)
			for _, r := range few {
				check(p, q, r)
			}
		}
	}
}

// TestP12_3_Once: no path is tested twice either where patterns of several kinds are mixed.
func TestP12_3_Once(t *testing.T) {
	m := newMaker(1233)
	for range 10000 {
		if tree, e := match.Compile(m.list()); e == api.OK {
			once(t, tree, nil)
		}
	}
	for _, l := range [][]api.TPat{bushy(8, 2), {wide(256, num(1)), wide(256, num(2))}} {
		once(t, compiled(t, l...), nil)
	}
	for _, n := range []int{255, 256} {
		tree := compiled(t, tower(n))
		once(t, tree, nil)
		if data := fmt.Sprint(match.Decide(tree, tower(n))); data != "0 []" {
			t.Error(data)
		}
	}
}
