package match_test

import (
	"math/rand"
	"reflect"
	"slices"
	"testing"

	"marquetry/api"
	"marquetry/match"
)

// A condition is a path and a pattern.
type condition struct {
	path []string
	p    api.TPat
}

type row struct {
	number     int
	conditions []condition
	binds      []api.Bind
}

func longer(path []string, step string) []string { return append(slices.Clone(path), step) }

func (r row) simplified() row {
	s := row{number: r.number, binds: slices.Clone(r.binds)}
	for todo := r.conditions; len(todo) > 0; {
		c := todo[0]
		todo = todo[1:]
		switch c.p.Kind {
		case api.PAny, api.PUnit:
		case api.PVar:
			s.binds = append(s.binds, api.Bind{V: c.p.V, Path: c.path})
		case api.PRecord:
			var inner []condition
			for i, label := range c.p.Labels {
				inner = append(inner, condition{longer(c.path, label), c.p.Args[i]})
			}
			todo = slices.Concat(inner, todo)
		default:
			s.conditions = append(s.conditions, c)
		}
	}
	return s
}

// index returns where the condition at a path stands, or -1.
func (r row) index(path []string) int {
	return slices.IndexFunc(r.conditions, func(c condition) bool { return slices.Equal(c.path, path) })
}

// A model says the chapter's words once more, and counts the parts of the tree.
type model struct{ parts int }

// modelled returns what Compile should return for valid patterns.
func modelled(l []api.TPat) (api.Tree, api.Errno) {
	var rows []row
	for i, p := range l {
		rows = append(rows, row{number: i, conditions: []condition{{nil, p}}}.simplified())
	}
	m := &model{}
	t := m.tree(rows)
	if m.parts > api.MaxTree {
		return api.Tree{}, api.ErrMany
	}
	return t, api.OK
}

func (m *model) tree(rows []row) api.Tree {
	m.parts++
	if m.parts > api.MaxTree {
		return api.Tree{}
	}
	if len(rows) == 0 {
		return api.Tree{Kind: api.TreeFail}
	}
	if len(rows[0].conditions) == 0 {
		return api.Tree{Kind: api.TreeLeaf, Case: rows[0].number, Binds: rows[0].binds}
	}
	t := api.Tree{Kind: api.TreeTest, Path: rows[0].conditions[0].path}
	var without []row
	var heads []api.TPat
	for _, r := range rows {
		i := r.index(t.Path)
		if i < 0 {
			without = append(without, r)
			continue
		}
		head := r.conditions[i].p
		head.Args = nil
		if !slices.ContainsFunc(heads, func(h api.TPat) bool { return reflect.DeepEqual(h, head) }) {
			heads = append(heads, head)
		}
	}
	for _, head := range heads {
		t.Branches = append(t.Branches, api.Branch{P: head, T: m.tree(rowsOf(rows, t.Path, head))})
	}
	t.Else = []api.Tree{m.tree(without)}
	return t
}

// rowsOf returns the rows with which the branch of a constant or a tag goes on.
func rowsOf(rows []row, path []string, head api.TPat) []row {
	var l []row
	for _, r := range rows {
		i := r.index(path)
		if i < 0 {
			l = append(l, r)
			continue
		}
		p := r.conditions[i].p
		if p.Kind != head.Kind || p.N != head.N || p.S != head.S {
			continue
		}
		var inner []condition
		if p.Kind == api.PTag {
			inner = []condition{{longer(path, ""), p.Args[0]}}
		}
		r.conditions = slices.Concat(r.conditions[:i], inner, r.conditions[i+1:])
		l = append(l, r.simplified())
	}
	return l
}

// A maker makes random patterns, whose variables are all different.
type maker struct {
	*rand.Rand
	next int
}

func newMaker(seed int64) *maker { return &maker{Rand: rand.New(rand.NewSource(seed))} }

func (m *maker) variable() api.TPat {
	m.next++
	return x(m.next)
}

func pick[T any](m *maker, l ...T) T { return l[m.Intn(len(l))] }

// pattern returns a pattern that heeds no type.
func (m *maker) pattern(depth int) api.TPat {
	n := m.Intn(14)
	switch {
	case n == 0:
		return wild
	case n == 1:
		return m.variable()
	case n >= 8 && depth > 0:
		return m.record("abcd", m.Intn(5), func(byte) api.TPat { return m.pattern(depth - 1) })
	case n >= 5 && depth > 0:
		return tag(pick(m, "A", "B"), m.pattern(depth-1))
	}
	return m.constant()
}

func (m *maker) constant() api.TPat {
	return pick(m, num(0), num(1), num(1), num(1), num(2), num(2), truth(0), truth(1), text(""), text("A"), exn("A"), exn("B"), unit)
}

// record returns a record with so many of the labels, in any order.
func (m *maker) record(labels string, n int, of func(label byte) api.TPat) api.TPat {
	p := rec("")
	for _, i := range m.Perm(len(labels))[:n] {
		p.Labels = append(p.Labels, labels[i:i+1])
		p.Args = append(p.Args, of(labels[i]))
	}
	return p
}

// list returns some patterns: of mixed kinds, or all of them records.
func (m *maker) list() []api.TPat {
	var l []api.TPat
	depth, records := 1+m.Intn(4), m.Intn(2) == 0
	for range m.Intn(8) {
		if records {
			l = append(l, m.record("abcd", m.Intn(5), func(byte) api.TPat { return m.pattern(depth - 1) }))
		} else {
			l = append(l, m.pattern(depth))
		}
	}
	return l
}

// size returns how many parts a tree has.
func size(t api.Tree) int {
	n := 1
	for _, b := range t.Branches {
		n += size(b.T)
	}
	for _, e := range t.Else {
		n += size(e)
	}
	return n
}

// agrees fails if Compile and the model differ on some valid patterns, and returns the tree.
func agrees(t *testing.T, l []api.TPat) (api.Tree, api.Errno) {
	t.Helper()
	got, e := match.Compile(l)
	want, errno := modelled(l)
	if e != errno || !same(got, want) {
		t.Fatalf("%+v:\n%+v, %d, not\n%+v, %d", l, got, e, want, errno)
	}
	return got, e
}

func TestP12_1_Model(t *testing.T) {
	m := newMaker(1211)
	sizes, large, errors := map[int]int{}, 0, map[api.Errno]int{}
	for range 30000 {
		tree, e := agrees(t, m.list())
		errors[e]++
		n := size(tree)
		sizes[n]++
		if n > 100 {
			large++
		}
	}
	if len(sizes) < 100 || large < 500 || errors[api.ErrMany] < 50 {
		t.Errorf("%d sizes, %d large ones, %v", len(sizes), large, errors)
	}
}

// TestP12_1_All: each list of at most three patterns out of a few.
func TestP12_1_All(t *testing.T) {
	few := []api.TPat{
		wild, unit, x(1), num(1), num(2), truth(1), text("A"), exn("A"), tag("A", wild), tag("A", x(2)), tag("A", num(1)), tag("B", tag("A", num(1))), tag("A", rec("a b", num(1), x(3))),
		rec(""), rec("a", x(4)), rec("a", num(1)), rec("a b", num(1), num(2)), rec("b a", num(1), num(2)), rec("b a", tag("A", x(5)), tag("A", num(1))), rec("a b", rec("a", num(2)), x(6)), rec("a c", tag("A", rec("a", num(1))), num(3)),
	}
	agrees(t, nil)
	for _, p := range few {
		agrees(t, []api.TPat{p})
		for _, q := range few {
			agrees(t, []api.TPat{p, q})
			for _, r := range few {
				agrees(t, []api.TPat{p, q, r})
			}
		}
	}
}
