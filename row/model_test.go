package row_test

import (
	"fmt"
	"math/rand"
	"reflect"
	"slices"
	"sort"
	"strings"
	"testing"

	"marquetry/api"
	"marquetry/row"
)

// A model says the chapter's words once more: each step resolves its types entirely and goes label by label.
type model struct {
	types     map[int]api.Type
	presences map[int]api.Field // of which Pres and P count
	rows      map[int]api.Row
	greatest  int
	a, b      api.Type
}

func newModel() *model {
	return &model{types: map[int]api.Type{}, presences: map[int]api.Field{}, rows: map[int]api.Row{}}
}

func (m *model) note(t api.Type) {
	m.greatest = max(m.greatest, t.V, t.Row.Rest)
	for _, a := range t.Args {
		m.note(a)
	}
	for _, f := range t.Row.Fields {
		m.greatest = max(m.greatest, f.P)
		m.note(f.T)
	}
}

func (m *model) fresh() int {
	m.greatest++
	return m.greatest
}

// resolve returns a resolved type.
func (m *model) resolve(t api.Type) api.Type {
	if value, ok := m.types[t.V]; ok && t.Kind == api.TyVar {
		return m.resolve(value)
	}
	r := api.Type{Kind: t.Kind, V: t.V, Row: m.row(t.Row)}
	for _, a := range t.Args {
		r.Args = append(r.Args, m.resolve(a))
	}
	return r
}

func (m *model) row(r api.Row) api.Row {
	var l []api.Field
	for _, f := range r.Fields {
		for known, ok := m.presences[f.P]; ok && f.Pres == api.PresVar; known, ok = m.presences[f.P] {
			f.Pres, f.P = known.Pres, known.P
		}
		if f.Pres == api.Absent {
			f.T = api.Type{}
		} else {
			f.T = m.resolve(f.T)
		}
		l = append(l, f)
	}
	out := api.Row{Rest: r.Rest}
	if value, ok := m.rows[r.Rest]; ok {
		inner := m.row(value)
		l = append(l, inner.Fields...)
		out.Rest = inner.Rest
	}
	for _, f := range l {
		if f.Pres != api.Absent || out.Rest != 0 {
			out.Fields = append(out.Fields, f)
		}
	}
	sort.SliceStable(out.Fields, func(i, k int) bool { return out.Fields[i].Label < out.Fields[k].Label })
	return out
}

// parts counts the parts of a resolved type.
func parts(t api.Type) int {
	n := 1
	for _, a := range t.Args {
		n += parts(a)
	}
	for _, f := range t.Row.Fields {
		n++
		if f.Pres != api.Absent {
			n += parts(f.T)
		}
	}
	return n
}

// visit goes through the variables of a resolved type as Canon does.
func visit(t api.Type, see func(sort byte, v int)) {
	if t.Kind == api.TyVar {
		see('t', t.V)
	}
	for _, a := range t.Args {
		visit(a, see)
	}
	for _, f := range t.Row.Fields {
		if f.Pres == api.PresVar {
			see('p', f.P)
		}
		if f.Pres != api.Absent {
			visit(f.T, see)
		}
	}
	if t.Row.Rest != 0 {
		see('r', t.Row.Rest)
	}
}

func occurs(sort byte, v int, t api.Type) bool {
	found := false
	visit(t, func(s byte, w int) { found = found || s == sort && w == v })
	return found
}

func variables(t api.Type) []int {
	var l []int
	visit(t, func(_ byte, v int) {
		if !slices.Contains(l, v) {
			l = append(l, v)
		}
	})
	return l
}

func (m *model) large() bool {
	return parts(m.resolve(m.a)) > api.MaxType || parts(m.resolve(m.b)) > api.MaxType
}

func (m *model) known() {
	if m.large() {
		panic(api.ErrMany)
	}
}

func (m *model) unify(a, b api.Type) (e api.Errno) {
	defer func() {
		if r := recover(); r != nil {
			e = r.(api.Errno)
		}
	}()
	m.note(a)
	m.note(b)
	m.a, m.b = a, b
	m.known()
	m.step(a, b)
	return api.OK
}

func (m *model) step(a, b api.Type) {
	a, b = m.resolve(a), m.resolve(b)
	if a.Kind == api.TyVar && b.Kind == api.TyVar && a.V == b.V {
		return
	}
	if b.Kind == api.TyVar && a.Kind != api.TyVar {
		a, b = b, a
	}
	if a.Kind == api.TyVar {
		if occurs('t', a.V, b) {
			panic(api.ErrOccurs)
		}
		m.types[a.V] = b
		m.known()
		return
	}
	if a.Kind != b.Kind {
		panic(api.ErrType)
	}
	for i := range a.Args {
		m.step(a.Args[i], b.Args[i])
	}
	m.rowStep(a.Row, b.Row)
}

// field returns the field of a label, with its presence as it is known now.
func (m *model) field(r api.Row, label string) (api.Field, bool) {
	for _, f := range r.Fields {
		if f.Label == label {
			return m.row(api.Row{Fields: []api.Field{f}, Rest: 1 << 40}).Fields[0], true
		}
	}
	return api.Field{}, false
}

func (m *model) presence(v int, f api.Field) {
	m.presences[v] = api.Field{Pres: f.Pres, P: f.P}
	m.known()
}

func labels(r api.Row) []string {
	var l []string
	for _, f := range r.Fields {
		l = append(l, f.Label)
	}
	return l
}

// only returns the fields whose labels another row does not have.
func only(r, other api.Row) []api.Field {
	var l []api.Field
	for _, f := range r.Fields {
		if !slices.Contains(labels(other), f.Label) {
			l = append(l, f)
		}
	}
	return l
}

func (m *model) rowStep(a, b api.Row) {
	a, b = m.row(a), m.row(b)
	all := append(labels(a), labels(b)...)
	sort.Strings(all)
	for _, label := range slices.Compact(all) {
		m.labelStep(a, b, label)
	}
	_, newA := m.rows[a.Rest]
	_, newB := m.rows[b.Rest]
	onlyA, onlyB := only(a, b), only(b, a)
	switch {
	case newA || newB:
		m.rowStep(api.Row{Fields: onlyA, Rest: a.Rest}, api.Row{Fields: onlyB, Rest: b.Rest})
	case a.Rest == b.Rest:
		if a.Rest != 0 && len(onlyA)+len(onlyB) > 0 {
			panic(api.ErrType)
		}
	case b.Rest == 0:
		m.setRow(a.Rest, api.Row{Fields: onlyB})
	case a.Rest == 0:
		m.setRow(b.Rest, api.Row{Fields: onlyA})
	case len(onlyA) == 0 && len(onlyB) == 0:
		m.setRow(a.Rest, api.Row{Rest: b.Rest})
	default:
		rest := m.fresh()
		m.setRow(a.Rest, api.Row{Fields: onlyB, Rest: rest})
		m.setRow(b.Rest, api.Row{Fields: onlyA, Rest: rest})
	}
}

func (m *model) labelStep(a, b api.Row, label string) {
	f, inA := m.field(a, label)
	g, inB := m.field(b, label)
	switch {
	case inA && inB:
		if f.Pres == api.PresVar && g.Pres == api.PresVar && f.P != g.P {
			m.presence(f.P, g)
		} else if f.Pres == api.PresVar && g.Pres != api.PresVar {
			m.presence(f.P, g)
		} else if g.Pres == api.PresVar && f.Pres != api.PresVar {
			m.presence(g.P, f)
		} else if f.Pres != g.Pres {
			panic(api.ErrType)
		}
		f, _ = m.field(a, label)
		g, _ = m.field(b, label)
		if f.Pres != api.Absent && g.Pres != api.Absent {
			m.step(f.T, g.T)
		}
	case inA && b.Rest == 0:
		m.alone(f)
	case inB && a.Rest == 0:
		m.alone(g)
	}
}

func (m *model) alone(f api.Field) {
	if f.Pres == api.Present {
		panic(api.ErrType)
	}
	if f.Pres == api.PresVar {
		m.presence(f.P, api.Field{Pres: api.Absent})
	}
}

func (m *model) setRow(v int, r api.Row) {
	if occurs('r', v, m.resolve(api.Type{Kind: api.TyRecord, Row: r})) {
		panic(api.ErrOccurs)
	}
	m.rows[v] = r
	m.known()
}

// A maker makes types that are valid together. What a number names goes by the number: 1 to 19 are types, 20 to 39 presences,
// and from 40 on there is a row for each Kind, for each set of labels, and for each of two.
type maker struct {
	*rand.Rand
	vars   int // how many variables of each sort there are
	labels []string
}

func (m *maker) rest(kind int, l []api.Field) int {
	if m.Intn(3) == 0 {
		return 0
	}
	set := 0
	for _, f := range l {
		set |= 1 << slices.Index(m.labels, f.Label)
	}
	return 40 + ((kind-api.TyRecord)<<len(m.labels)+set)*2 + m.Intn(2)
}

func (m *maker) row(kind, depth int) api.Row {
	var l []api.Field
	for _, x := range m.labels {
		switch m.Intn(5) {
		case 0, 1:
			l = append(l, is(x, m.make(depth-1)))
		case 2:
			l = append(l, may(x, 20+m.Intn(m.vars), m.make(depth-1)))
		case 3:
			if m.Intn(2) == 0 {
				l = append(l, not(x))
			}
		}
	}
	r := api.Row{Fields: l, Rest: m.rest(kind, l)}
	if r.Rest == 0 {
		r.Fields = slices.DeleteFunc(l, func(f api.Field) bool { return f.Pres == api.Absent })
	}
	return r
}

func (m *maker) make(depth int) api.Type {
	if depth <= 0 {
		if m.Intn(2) == 0 {
			return v(1 + m.Intn(m.vars))
		}
		return api.Type{Kind: api.TyInt + m.Intn(2)}
	}
	switch m.Intn(12) {
	case 0, 1:
		return v(1 + m.Intn(m.vars))
	case 2:
		return api.Type{Kind: api.TyInt + m.Intn(5)}
	case 3, 4:
		return fun(m.make(depth-1), m.make(depth-1))
	case 5:
		return ref(m.make(depth - 1))
	case 6:
		return array(m.make(depth - 1))
	case 7, 8:
		return api.Type{Kind: api.TyTags, Row: m.row(api.TyTags, depth)}
	}
	return api.Type{Kind: api.TyRecord, Row: m.row(api.TyRecord, depth)}
}

// near returns a type that is like another one, so that unifying them goes far: some of its parts are others.
func (m *maker) near(t api.Type, depth int) api.Type {
	if m.Intn(6) == 0 {
		return m.make(depth - 1)
	}
	r := api.Type{Kind: t.Kind, V: t.V}
	for _, a := range t.Args {
		r.Args = append(r.Args, m.near(a, depth-1))
	}
	if t.Kind == api.TyRecord || t.Kind == api.TyTags {
		for _, f := range t.Row.Fields {
			if m.Intn(4) == 0 {
				continue
			}
			if f.Pres != api.Absent {
				f.T = m.near(f.T, depth-1)
			}
			if f.Pres == api.Present && m.Intn(3) == 0 {
				f.Pres, f.P = api.PresVar, 20+m.Intn(m.vars)
			}
			r.Row.Fields = append(r.Row.Fields, f)
		}
		r.Row.Rest = m.rest(t.Kind, r.Row.Fields)
		if r.Row.Rest == 0 {
			r.Row.Fields = slices.DeleteFunc(r.Row.Fields, func(f api.Field) bool { return f.Pres == api.Absent })
		}
	}
	return r
}

// plain returns a type without empty lists, so that types can be held against each other.
func plain(t api.Type) api.Type {
	r := api.Type{Kind: t.Kind, V: t.V, Row: api.Row{Rest: t.Row.Rest}}
	for _, a := range t.Args {
		r.Args = append(r.Args, plain(a))
	}
	for _, f := range t.Row.Fields {
		f.T = plain(f.T)
		r.Row.Fields = append(r.Row.Fields, f)
	}
	return r
}

// same fails if a solver and a model know different things of a type.
func same(t *testing.T, s *row.Solver, m *model, x api.Type) {
	t.Helper()
	m.note(x)
	want := m.resolve(x)
	got := s.Apply(x)
	if !reflect.DeepEqual(plain(got), plain(want)) {
		t.Fatalf("%s is %s, want %s", row.Text(x), row.Text(got), row.Text(want))
	}
	if n := parts(want); s.Size(x, 1<<30) != n || s.Size(x, n) != n || s.Size(x, n-1) != n || s.Size(x, n-2) != n-1 || row.Size(got, 1<<30) != n {
		t.Fatalf("%s has %d parts, want %d", row.Text(got), s.Size(x, 1<<30), n)
	}
	if l := variables(want); !slices.Equal(s.Vars(x), l) || !slices.Equal(row.New().Vars(got), l) {
		t.Fatalf("%s has %v, want %v", row.Text(got), s.Vars(x), l)
	}
	if !row.May(got) {
		t.Fatalf("%s is not valid", row.Text(got))
	}
	canonical(t, want)
}

// canonical fails if Canon does something else than to number by visits.
func canonical(t *testing.T, x api.Type) {
	t.Helper()
	c := row.Canon(x)
	was, is := []string{}, []string{}
	visit(x, func(sort byte, v int) { was = append(was, fmt.Sprint(string(sort), slices.Index(variables(x), v)+1)) })
	visit(c, func(sort byte, v int) { is = append(is, fmt.Sprint(string(sort), v)) })
	if !slices.Equal(was, is) || !row.May(c) || shape(c) != shape(x) {
		t.Fatalf("Canon(%s) = %s", row.Text(x), row.Text(c))
	}
}

// shape returns a type's text without its numbers.
func shape(t api.Type) string {
	return strings.Map(func(r rune) rune {
		if '0' <= r && r <= '9' {
			return -1
		}
		return r
	}, row.Text(t))
}

// TestP10_2_Model: random types, several pairs a solver, are held against the model.
func TestP10_2_Model(t *testing.T) {
	counts := map[api.Errno]int{}
	for seed := range 20000 {
		m := &maker{rand.New(rand.NewSource(int64(seed))), 1 + seed%4, []string{"a", "b", "c"}[:1+seed%3]}
		s, o := row.New(), newModel()
		if seed%2 == 0 {
			s.Apply(v(150))
			o.note(v(150))
		}
		var l []api.Type
		for range 1 + m.Intn(6) {
			a := m.make(1 + m.Intn(4))
			b := m.near(a, 1+m.Intn(4))
			if len(l) > 0 && m.Intn(3) == 0 {
				a = l[m.Intn(len(l))]
			}
			if seed%2 == 0 && len(l) > 0 && m.Intn(3) == 0 {
				b = o.resolve(l[m.Intn(len(l))])
			}
			if m.Intn(2) == 0 {
				a, b = b, a
			}
			if !row.May(fun(a, b)) {
				t.Fatalf("%s, %s: not valid", row.Text(a), row.Text(b))
			}
			want := o.unify(a, b)
			if got := s.Unify(a, b); got != want {
				t.Fatalf("seed %d: %s, %s: %d, want %d", seed, row.Text(a), row.Text(b), got, want)
			}
			counts[want]++
			if want != api.OK {
				break
			}
			l = append(l, a, b)
			if !reflect.DeepEqual(s.Apply(a), s.Apply(b)) {
				t.Fatalf("seed %d: %s is not %s", seed, row.Text(s.Apply(a)), row.Text(s.Apply(b)))
			}
			for _, x := range l {
				if parts(o.resolve(x)) < 5000 {
					same(t, s, o, x)
				}
			}
			if seed%2 == 1 {
				break // A new row may have the number of another thing that would come later.
			}
			same(t, s, o, m.make(3))
			if m.Intn(4) == 0 && s.Fresh() != o.fresh() {
				t.Fatalf("seed %d: Fresh", seed)
			}
		}
	}
	for _, e := range []api.Errno{api.OK, api.ErrType, api.ErrOccurs} {
		if counts[e] < 1000 {
			t.Errorf("%v", counts)
		}
	}
}

// TestP10_2_ModelLarge: types that become too large sooner or later, as variables stand for types of several others.
func TestP10_2_ModelLarge(t *testing.T) {
	counts := map[api.Errno]int{}
	for seed := range 2500 {
		m := &maker{rand.New(rand.NewSource(int64(seed))), 2, []string{"a", "b", "c"}}
		s, o := row.New(), newModel()
		s.Apply(v(300))
		o.note(v(300))
		for n := 2; n < 19; n++ {
			m.vars = n - 1
			a, b := v(n), fun(v(n-1), m.make(1+m.Intn(2)))
			switch m.Intn(12) {
			case 0, 1:
				b = fun(v(n-1), fun(v(n-1), v(1+m.Intn(n-1))))
			case 2, 3:
				b = rec(0, is("a", v(n-1)), may("b", 20+m.Intn(n), v(n-1)))
			case 4, 5:
				b = rec(200+n, is("x", v(n-1)), may("y", 20+m.Intn(n), v(n-1)))
			case 6, 7:
				a, b = fun(v(n), rec(200+n)), fun(rec(200+n), rec(0, is("y", v(n-1)), is("z", m.make(2))))
			case 8:
				a, b = fun(v(n), rec(200+n, not("x"))), fun(rec(200+n, not("x")), rec(250+n, is("y", v(n-1)), is("z", v(n-1))))
			}
			if m.Intn(6) == 0 {
				a, b = fun(a, m.make(1)), fun(b, m.make(1))
			}
			if m.Intn(2) == 0 {
				a, b = b, a
			}
			if parts(o.resolve(a)) > 3000 || parts(o.resolve(b)) > 3000 {
				continue
			}
			want := o.unify(a, b)
			if got := s.Unify(a, b); got != want {
				t.Fatalf("seed %d: %s, %s: %d, want %d", seed, row.Text(a), row.Text(b), got, want)
			}
			counts[want]++
			if want != api.OK {
				break
			}
			if got := s.Apply(a); !reflect.DeepEqual(plain(got), plain(o.resolve(b))) {
				t.Fatalf("seed %d: %s is not %s", seed, row.Text(got), row.Text(o.resolve(b)))
			}
		}
	}
	if counts[api.OK] < 1000 || counts[api.ErrMany] < 500 {
		t.Errorf("%v", counts)
	}
}
