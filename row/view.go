package row

import (
	"cmp"
	"iter"
	"slices"
	"strings"

	"marquetry/api"
)

// A view is a type as it is seen: plainly as it stands there, or with what is known of its variables, as far as its own fields.
type view struct {
	kind, v int
	args    []api.Type
	row
}

type row struct {
	fields []field
	rest   int
}

// A field has its type where that stands in memory, so that it is recognized when it is come to again; none if it is absent.
type field struct {
	label string
	presence
	t *api.Type
}

// An item is what a type consists of: a variable, or a type.
type item struct {
	v int
	t *api.Type
}

// plainly returns the view of a type in which nothing is known.
func plainly(t *api.Type) view {
	return view{t.Kind, t.V, t.Args, row{fieldsOf(t.Row.Fields), t.Row.Rest}}
}

// fieldsOf returns fields as those of a view.
func fieldsOf(l []api.Field) []field {
	var m []field
	for i := range l {
		f := field{l[i].Label, presence{l[i].Pres, l[i].P}, &l[i].T}
		if f.pres == api.Absent {
			f.t = nil
		}
		m = append(m, f)
	}
	return m
}

// look returns the view of a type in which everything known is seen.
func (s *Solver) look(t *api.Type) view {
	if t.Kind == api.TyVar {
		t = s.types.find(t.V, shape{t}).Type
	}
	return view{t.Kind, t.V, t.Args, s.whole(t.Row)}
}

// whole returns a row with the fields of what is known of its rest.
func (s *Solver) whole(r api.Row) row {
	l, rest := s.found(r.Fields), r.Rest
	for more := rest != 0; more; {
		known := s.rows.find(rest, tail{Rest: rest})
		l, rest = append(l, s.found(known.Fields)...), known.Rest
		more = len(known.Fields) > 0
	}
	slices.SortStableFunc(l, func(f, g field) int { return cmp.Compare(f.label, g.label) })
	if rest == 0 {
		l = slices.DeleteFunc(l, func(f field) bool { return f.pres == api.Absent })
	}
	return row{l, rest}
}

// found returns fields with what is known of their presences.
func (s *Solver) found(l []api.Field) []field {
	m := fieldsOf(l)
	for i := range m {
		m[i].presence = s.find(m[i].presence)
		if m[i].pres == api.Absent {
			m[i].t = nil
		}
	}
	return m
}

// find returns a presence, or what is known of it.
func (s *Solver) find(p presence) presence {
	if p.pres != api.PresVar {
		return p
	}
	return s.presences.find(p.p, p)
}

// items adds to a list what a type consists of, in the order in which Canon visits it.
func (v view) items(l []item) []item {
	if v.kind == api.TyVar {
		l = append(l, item{v: v.v})
	}
	for i := range v.args {
		l = append(l, item{t: &v.args[i]})
	}
	for _, f := range v.fields {
		if f.pres == api.PresVar {
			l = append(l, item{v: f.p})
		}
		if f.t != nil {
			l = append(l, item{t: f.t})
		}
	}
	if v.rest != 0 {
		l = append(l, item{v: v.rest})
	}
	return l
}

// copied returns a type whose own fields are those of a view, in lists of its own.
func (v view) copied() api.Type {
	return api.Type{Kind: v.kind, V: v.v, Args: slices.Clone(v.args), Row: v.row.copied()}
}

func (r row) copied() api.Row {
	var l []api.Field
	for _, f := range r.fields {
		c := api.Field{Label: strings.Clone(f.label), Pres: f.pres, P: f.p}
		if f.t != nil {
			c.T = *f.t
		}
		l = append(l, c)
	}
	return api.Row{Fields: l, Rest: r.rest}
}

// places returns the places in memory at which a type and its parts stand, each once, as several may share one. What comes
// after a place is looked for when that has been dealt with.
func places(t *api.Type) iter.Seq[*api.Type] {
	return func(yield func(*api.Type) bool) {
		seen := map[*api.Type]struct{}{}
		todo := []item{{t: t}}
		for len(todo) > 0 {
			x := todo[len(todo)-1].t
			todo = todo[:len(todo)-1]
			if _, again := seen[x]; again || x == nil {
				continue
			}
			seen[x] = struct{}{}
			if !yield(x) {
				return
			}
			todo = plainly(x).items(todo)
		}
	}
}

// resolved returns a type resolved, in memory of its own.
func (s *Solver) resolved(t api.Type) api.Type {
	for x := range places(&t) {
		*x = s.look(x).copied()
	}
	return t
}

// vars returns the variables that a type has, resolved. What was visited once has no others.
func (s *Solver) vars(t *api.Type) []int {
	var l []int
	listed := map[int]struct{}{}
	seen := map[*api.Type]struct{}{}
	todo := []item{{t: t}}
	for len(todo) > 0 {
		x := todo[len(todo)-1]
		todo = todo[:len(todo)-1]
		if x.t == nil {
			if _, again := listed[x.v]; !again {
				listed[x.v] = struct{}{}
				l = append(l, x.v)
			}
			continue
		}
		if _, again := seen[x.t]; again {
			continue
		}
		seen[x.t] = struct{}{}
		before := len(todo)
		todo = s.look(x.t).items(todo)
		slices.Reverse(todo[before:])
	}
	return l
}
