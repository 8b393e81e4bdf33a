package match_test

import (
	"math"
	"reflect"
	"runtime/debug"
	"slices"
	"strings"
	"sync"
	"testing"
	"unsafe"

	"marquetry/api"
	"marquetry/match"
)

// copied returns a pattern in memory of its own.
func copied(p api.TPat) api.TPat {
	p.Labels, p.Args = slices.Clone(p.Labels), slices.Clone(p.Args)
	for i, a := range p.Args {
		p.Args[i] = copied(a)
	}
	return p
}

// A memory is what has been seen of some values: where their strings are, and where their lists begin.
type memory struct {
	strings, lists map[unsafe.Pointer]bool
}

func newMemory() memory { return memory{map[unsafe.Pointer]bool{}, map[unsafe.Pointer]bool{}} }

// add fails if a value shares memory with those in other, or has a list twice.
func (m memory) add(t *testing.T, v reflect.Value, other memory) {
	t.Helper()
	switch v.Kind() {
	case reflect.String:
		if s := v.String(); s != "" {
			p := unsafe.Pointer(unsafe.StringData(s))
			if other.strings[p] {
				t.Fatal("a string is shared")
			}
			m.strings[p] = true
		}
	case reflect.Slice:
		if v.Cap() > 0 {
			p := v.UnsafePointer()
			if other.lists[p] || m.lists[p] {
				t.Fatal("a list is shared")
			}
			m.lists[p] = true
		}
		for i := range v.Len() {
			m.add(t, v.Index(i), other)
		}
	case reflect.Struct:
		for i := range v.NumField() {
			m.add(t, v.Field(i), other)
		}
	}
}

// TestP1_OwnMemory: no string and no list of a result is one of the arguments' or of another result's, nor is a list there
// twice.
func TestP1_OwnMemory(t *testing.T) {
	long := func(s string) string { return strings.Repeat(s, 30) }
	p := rec(long("a")+" "+long("b"), tag(long("T"), rec(long("c")+" "+long("d"), x(1), text(long("s")))), exn(long("E")))
	q := rec(long("b")+" "+long("a"), x(2), tag(long("T"), x(3)))
	passed := newMemory()
	passed.add(t, reflect.ValueOf([]api.TPat{p, q}), newMemory())
	l := []api.TPat{p, q, x(4)}
	first, second := compiled(t, l...), compiled(t, l...)
	results := newMemory()
	results.add(t, reflect.ValueOf(first), passed)
	newMemory().add(t, reflect.ValueOf(second), passed)
	newMemory().add(t, reflect.ValueOf(second), results)
	if len(results.strings) < 7 || len(results.lists) < 15 || len(passed.strings) < 10 {
		t.Errorf("%d strings, %d lists; %d strings passed", len(results.strings), len(results.lists), len(passed.strings))
	}
	// What is at the same place is there twice.
	tree := leaf(0, bind(1, ""), api.Bind{V: 2, Path: []string{long("a")}}, bind(3, ""))
	_, bound := match.Decide(tree, p)
	_, again := match.Decide(tree, p)
	results = newMemory()
	results.add(t, reflect.ValueOf(bound), passed)
	newMemory().add(t, reflect.ValueOf(again), passed)
	newMemory().add(t, reflect.ValueOf(again), results)
	if want := []api.TPat{p, p.Args[0], p}; !samePats(bound, want) || len(results.lists) != 1+5+3+5 {
		t.Errorf("%+v, %d lists", bound, len(results.lists))
	}
	// So what was passed may be changed afterwards.
	want, _ := modelled(l)
	want = plain(want)
	p.Labels[0], p.Args[0].S, p.Args[0].Args[0].Labels[1], q.Labels[1], p.Args[1], l[2] = "z", "z", "z", "z", unit, wild
	if !same(first, want) || !same(second, want) {
		t.Error("another tree")
	}
	if !samePats(bound, again) || bound[0].Labels[0] != long("a") {
		t.Error("another pattern")
	}
}

// spoil changes a field of some part of a pattern.
func (m *maker) spoil(p *api.TPat) {
	for len(p.Args) > 0 && m.Intn(3) > 0 {
		p = &p.Args[m.Intn(len(p.Args))]
	}
	switch m.Intn(8) {
	case 0:
		p.Kind = m.Intn(12) - 1
	case 1:
		p.V = m.Intn(3)
	case 2:
		p.N = pick[int64](m, 0, 1, 2, 1<<62, math.MinInt64)
	case 3:
		p.S = pick(m, "", "A", strings.Repeat("s", api.MaxText+1))
	case 4:
		p.Labels = append(p.Labels, pick(m, "", "a", "b"))
	case 5:
		p.Labels = p.Labels[:len(p.Labels)/2]
	case 6:
		p.Args = append(p.Args, wild)
	case 7:
		p.Args = p.Args[:len(p.Args)/2]
	}
}

// spoilTree changes a field of some part of a tree.
func (m *maker) spoilTree(t *api.Tree) {
	for m.Intn(3) > 0 && len(t.Branches) > 0 && len(t.Else) > 0 {
		if m.Intn(2) == 0 {
			t = &t.Else[0]
		} else {
			t = &t.Branches[m.Intn(len(t.Branches))].T
		}
	}
	switch m.Intn(6) {
	case 0:
		t.Kind = m.Intn(6) - 1
	case 1:
		t.Path = append(t.Path, pick(m, "", "a", "z"))
	case 2:
		t.Path = nil
	case 3:
		t.Else = append(t.Else, api.Tree{Kind: api.TreeLeaf})
	case 4:
		t.Else = nil
	case 5:
		t.Branches = append(t.Branches, api.Branch{P: m.pattern(2), T: m.tree(1)})
	}
}

// TestP1_Rules: no call panics, an error or -1 leaves nothing else, nothing that is passed is changed, and neither earlier
// calls nor others at the same time change a result.
func TestP1_Rules(t *testing.T) {
	type result struct {
		tree  api.Tree
		errno api.Errno
		n     int
		bound []api.TPat
	}
	run := func() []result {
		m := newMaker(12)
		var l []result
		for range 5000 {
			pats := m.list()
			for i := range pats {
				for m.Intn(6) == 0 {
					m.spoil(&pats[i])
				}
			}
			before := copied(rec("", pats...))
			var r result
			r.tree, r.errno = match.Compile(pats)
			if !reflect.DeepEqual(copied(rec("", pats...)), before) {
				t.Errorf("%+v: changed", before)
			}
			if r.errno != api.OK && !reflect.DeepEqual(r.tree, api.Tree{}) {
				t.Errorf("%+v: %d beside %+v", pats, r.errno, r.tree)
			}
			tree, p := plain(r.tree), m.pattern(3)
			for m.Intn(2) == 0 {
				m.spoil(&p)
				m.spoilTree(&tree)
			}
			kept, old := plain(tree), copied(p)
			r.n, r.bound = match.Decide(tree, p)
			if !same(tree, kept) || !reflect.DeepEqual(p, old) {
				t.Errorf("%+v, %+v: changed", kept, old)
			}
			if r.n == -1 && len(r.bound) > 0 {
				t.Errorf("%+v beside -1", r.bound)
			}
			l = append(l, r)
		}
		return l
	}
	first := run()
	errors, ways := map[api.Errno]int{}, map[bool]int{}
	for _, r := range first {
		errors[r.errno]++
		ways[r.n >= 0]++
	}
	if errors[api.OK] < 500 || errors[api.ErrForm] < 500 || errors[api.ErrMany] < 3 || ways[true] < 500 || ways[false] < 500 {
		t.Errorf("%v, %v", errors, ways)
	}
	var wait sync.WaitGroup
	for range 4 {
		wait.Go(func() {
			if again := run(); !reflect.DeepEqual(again, first) {
				t.Error("another result")
			}
		})
	}
	wait.Wait()
}

// loop returns a pattern that contains itself.
func loop() api.TPat {
	p := tag("A", wild)
	p.Args[0] = p
	return p
}

// doubled returns a pattern with 2^n parts and more, in the memory of 2n.
func doubled(n int) api.TPat {
	p := wild
	for range n {
		p = rec("a b", p, p)
	}
	return p
}

// TestP1_Huge: neither what is deeper than calls can be nor what contains itself stops a call.
func TestP1_Huge(t *testing.T) {
	defer debug.SetMaxStack(debug.SetMaxStack(16 << 20))
	deep := tower(1 << 20)
	for i, p := range []api.TPat{deep, loop(), doubled(100), wide(1<<16, wild), {Kind: api.PRecord, Args: make([]api.TPat, 1<<20)}} {
		if got, e := match.Compile([]api.TPat{wild, p}); e != api.ErrMany || !same(got, api.Tree{}) {
			t.Errorf("%d: %d", i, e)
		}
	}
	fails(t, api.ErrMany, make([]api.TPat, 1<<20)...)
	fails(t, api.ErrForm, wild, api.TPat{Kind: api.PRecord, Labels: make([]string, 1<<20)})
	fails(t, api.ErrForm, wild, exn(strings.Repeat("s", 1<<20)), text(strings.Repeat("s", 1<<20)))

	far := slices.Repeat([]string{""}, 1<<20-1)
	for i, c := range []struct {
		tree api.Tree
		p    api.TPat
		n    int
		l    []api.TPat
	}{
		{api.Tree{Kind: api.TreeTest, Path: far, Else: []api.Tree{{Kind: api.TreeLeaf, Binds: []api.Bind{{Path: far}}}}}, deep, 0, []api.TPat{wild}},
		{api.Tree{Kind: api.TreeLeaf, Binds: []api.Bind{{Path: append(far, "")}}}, deep, -1, nil},
		{leaf(2), deep, 2, nil},
		{test("-", leaf(2)), loop(), 2, nil},
		{test("a b a", leaf(2), on(num(1), fail)), doubled(100), 2, nil},
		// A valid pattern may be as large as a term, or as deep.
		{leaf(3, bind(0, ""), bind(1, "")), tower(599), 3, []api.TPat{tower(599), tower(599)}},
		{leaf(3, bind(0, "")), wide(api.MaxTerm-3, unit), 3, []api.TPat{wide(api.MaxTerm-3, unit)}},
		{leaf(3, bind(0, "")), tower(api.MaxTerm), 3, []api.TPat{tower(api.MaxTerm)}},
	} {
		if n, l := match.Decide(c.tree, c.p); n != c.n || !samePats(l, c.l) {
			t.Errorf("%d: %d, %d patterns", i, n, len(l))
		}
	}
	// One that is larger is none: it is only asked that there is an end.
	for _, p := range []api.TPat{loop(), doubled(100), deep, wide(1<<16, wild)} {
		if n, l := match.Decide(leaf(2, bind(0, "")), p); n == -1 && len(l) > 0 || n != -1 && n != 2 {
			t.Error(n)
		}
	}
}

// TestP1_LongWay: a tree with very many tests one after the other, and trees that contain themselves.
func TestP1_LongWay(t *testing.T) {
	tree := leaf(3, bind(1, ""))
	for i := range 1 << 18 {
		if i%2 == 0 {
			tree = test("", tree, on(num(1), fail))
		} else {
			tree = test("", fail, on(num(0), fail), on(num(2), tree))
		}
	}
	for p, want := range map[int64]int{1: -1, 2: 3} {
		if n, l := match.Decide(tree, num(p)); n != want || want == 3 && !samePats(l, []api.TPat{num(2)}) {
			t.Errorf("%d: %d, %+v", p, n, l)
		}
	}
	for before := range 20 {
		for around := range 20 {
			round := test("", fail)
			inner := &round.Else[0]
			for range around {
				*inner = test("", fail)
				inner = &inner.Else[0]
			}
			*inner = round
			tree := round
			for range before {
				tree = test("", tree)
			}
			if n, l := match.Decide(tree, num(1)); n != -1 || len(l) > 0 {
				t.Errorf("%d before %d: %d", before, around, n)
			}
		}
	}
	// The way out of such a tree is found.
	round := test("", leaf(4), on(num(1), fail))
	round.Branches[0].T = round
	for p, want := range map[int64]int{1: -1, 2: 4} {
		if n, l := match.Decide(round, num(p)); n != want || len(l) > 0 {
			t.Errorf("%d: %d", p, n)
		}
	}
}

// TestP1_LittleTime: long labels, tags and strings, of which each pattern has many that are nearly equal.
func TestP1_LittleTime(t *testing.T) {
	name := func(i int) string {
		return strings.Repeat("n", 1<<16) + string(rune('a'+i))
	}
	var l []api.TPat
	for i := range 7 {
		p := rec("")
		for k := range 20 {
			p.Labels = append(p.Labels, name(k))
			p.Args = append(p.Args, tag(name(20+i), num(int64(k))))
		}
		l = append(l, p)
	}
	if tree := compiled(t, l...); size(tree) != 7*(20*4-1)+2 {
		t.Error(size(tree))
	}
	for i := range l {
		leads(t, compiled(t, l...), l[i], i)
	}
	// Many variables far within, which all leaves of a large tree bind.
	last := wide(100, x(1))
	for range 100 {
		last = rec("in", last)
	}
	tree := compiled(t, append(bushy(7, 0), last)...)
	if got := size(tree); got != 1<<9-3 {
		t.Error(got)
	}
}
