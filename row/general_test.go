package row_test

import (
	"math/rand"
	"reflect"
	"slices"
	"testing"

	"marquetry/api"
	"marquetry/row"
)

// A ground substitution has a value without variables for each variable; every presence is Present.
type ground struct {
	types map[int]api.Type
	rows  map[int][]api.Field
}

func (g ground) of(t api.Type) api.Type {
	if t.Kind == api.TyVar {
		return g.types[t.V]
	}
	r := api.Type{Kind: t.Kind}
	for _, a := range t.Args {
		r.Args = append(r.Args, g.of(a))
	}
	for _, f := range t.Row.Fields {
		if f.Pres != api.Absent {
			r.Row.Fields = append(r.Row.Fields, is(f.Label, g.of(f.T)))
		}
	}
	r.Row.Fields = append(r.Row.Fields, g.rows[t.Row.Rest]...)
	slices.SortFunc(r.Row.Fields, func(f, g api.Field) int {
		if f.Label < g.Label {
			return -1
		}
		return 1
	})
	return r
}

// instance finds out whether a type without variables is an instance of another one, by what the variables of that would be.
type instance struct {
	types     map[int]api.Type
	presences map[int]int
	rows      map[int][]api.Field
}

func (in instance) presence(v, pres int) bool {
	before, ok := in.presences[v]
	in.presences[v] = pres
	return !ok || before == pres
}

func (in instance) of(t, g api.Type) bool {
	if t.Kind == api.TyVar {
		before, ok := in.types[t.V]
		in.types[t.V] = g
		return !ok || reflect.DeepEqual(before, g)
	}
	if t.Kind != g.Kind {
		return false
	}
	for i := range t.Args {
		if !in.of(t.Args[i], g.Args[i]) {
			return false
		}
	}
	var rest []api.Field
	for _, f := range g.Row.Fields {
		if _, ok := find(t.Row.Fields, f.Label); !ok {
			rest = append(rest, f)
		}
	}
	for _, f := range t.Row.Fields {
		h, has := find(g.Row.Fields, f.Label)
		pres := api.Absent
		if has {
			pres = api.Present
		}
		if f.Pres == api.PresVar && !in.presence(f.P, pres) || f.Pres != api.PresVar && f.Pres != pres || has && !in.of(f.T, h.T) {
			return false
		}
	}
	if t.Row.Rest == 0 {
		return len(rest) == 0
	}
	before, ok := in.rows[t.Row.Rest]
	in.rows[t.Row.Rest] = rest
	return !ok || reflect.DeepEqual(before, rest)
}

func find(l []api.Field, label string) (api.Field, bool) {
	i := slices.IndexFunc(l, func(f api.Field) bool { return f.Label == label })
	if i < 0 {
		return api.Field{}, false
	}
	return l[i], true
}

// grounds returns all ground substitutions of a type's variables, of a few values each. The labels that are free for a row are
// those that no row before it has.
func grounds(t api.Type, labels []string) []ground {
	all := []ground{{map[int]api.Type{}, map[int][]api.Field{}}}
	free := map[int][]string{}
	var rows func(t api.Type)
	rows = func(t api.Type) {
		for _, a := range t.Args {
			rows(a)
		}
		if t.Row.Rest != 0 {
			free[t.Row.Rest] = slices.DeleteFunc(slices.Clone(labels), func(l string) bool {
				_, has := find(t.Row.Fields, l)
				return has
			})
		}
		for _, f := range t.Row.Fields {
			rows(f.T)
		}
	}
	rows(t)
	seen := map[int]bool{}
	visit(t, func(sort byte, v int) {
		if seen[v] || sort == 'p' {
			return
		}
		seen[v] = true
		var l []ground
		for _, g := range all {
			if sort == 't' {
				for _, x := range []api.Type{num, truth, ref(num), {Kind: api.TyRecord, Row: api.Row{Fields: []api.Field{is("a", num)}}}} {
					h := ground{map[int]api.Type{v: x}, g.rows}
					for k, y := range g.types {
						h.types[k] = y
					}
					l = append(l, h)
				}
				continue
			}
			for _, r := range fields(free[v]) {
				h := ground{g.types, map[int][]api.Field{v: r}}
				for k, y := range g.rows {
					h.rows[k] = y
				}
				l = append(l, h)
			}
		}
		all = l
	})
	return all
}

// fields returns all lists of fields with some of these labels, of a few types.
func fields(labels []string) [][]api.Field {
	if len(labels) == 0 {
		return [][]api.Field{nil}
	}
	var l [][]api.Field
	for _, r := range fields(labels[1:]) {
		l = append(l, r)
		for _, x := range []api.Type{num, truth} {
			l = append(l, append([]api.Field{is(labels[0], x)}, r...))
		}
	}
	return l
}

// TestP10_5_General: where a substitution makes two types equal, they are unified, and it is an instance of the result.
func TestP10_5_General(t *testing.T) {
	unified, instances := 0, 0
	for seed := range 6000 {
		labels := []string{"a", "b", "c"}[:1+seed%3]
		m := &maker{rand.New(rand.NewSource(int64(seed))), 1 + seed%2, labels}
		a := m.make(1 + m.Intn(3))
		b := m.near(a, 2)
		both := fun(a, b)
		if l := variables(both); len(l) > 4 {
			continue
		}
		s := row.New()
		e := s.Unify(a, b)
		if e == api.ErrMany {
			continue
		}
		result := s.Apply(both)
		if e == api.OK {
			unified++
			if !reflect.DeepEqual(plain(result.Args[0]), plain(result.Args[1])) {
				t.Fatalf("%s, %s: %s", row.Text(a), row.Text(b), row.Text(result))
			}
		}
		for _, g := range grounds(both, labels) {
			x := g.of(a)
			if !reflect.DeepEqual(x, g.of(b)) {
				continue
			}
			instances++
			if e != api.OK {
				t.Fatalf("%s, %s: %d, though both can be %s", row.Text(a), row.Text(b), e, row.Text(x))
			}
			in := instance{map[int]api.Type{}, map[int]int{}, map[int][]api.Field{}}
			for w, y := range g.types {
				if !in.of(s.Apply(v(w)), y) {
					t.Fatalf("%s, %s: '%d cannot be %s", row.Text(a), row.Text(b), w, row.Text(y))
				}
			}
			if !in.of(result, fun(x, x)) {
				t.Fatalf("%s, %s: %s cannot be %s", row.Text(a), row.Text(b), row.Text(result), row.Text(fun(x, x)))
			}
		}
	}
	if unified < 500 || instances < 5000 {
		t.Errorf("%d, %d", unified, instances)
	}
}
