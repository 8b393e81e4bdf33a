package row

import (
	"slices"

	"marquetry/api"
)

// A thing is what a number names: the Kind is TyVar for a type, TyRecord or TyTags for a row of these, and 0 for a presence.
type thing struct {
	kind   int
	fields []api.Field // those that a row comes after, of which the labels count
}

// things are what the numbers of a type name.
type things map[int]thing

// May reports whether a type is valid.
func May(t api.Type) bool {
	named := things{}
	for x := range places(&t) {
		if !proper(x) || !named.agree(x) {
			return false
		}
	}
	return true
}

// proper reports whether a type has exactly the fields of its Kind, apart from what its parts have.
func proper(t *api.Type) bool {
	args := 0
	switch t.Kind {
	case api.TyInt, api.TyBool, api.TyString, api.TyUnit, api.TyExn:
	case api.TyVar:
		return t.V > 0 && len(t.Args) == 0 && bare(t.Row)
	case api.TyFun:
		args = 2
	case api.TyRef, api.TyArray:
		args = 1
	case api.TyRecord, api.TyTags:
		return t.V == 0 && len(t.Args) == 0 && properRow(t.Row)
	default:
		return false
	}
	return t.V == 0 && len(t.Args) == args && bare(t.Row)
}

// bare reports whether a row is zero.
func bare(r api.Row) bool {
	return len(r.Fields) == 0 && r.Rest == 0
}

// properRow reports whether a row is as it may be, apart from the types of its fields.
func properRow(r api.Row) bool {
	before := ""
	for _, f := range r.Fields {
		if f.Label <= before || !properField(f) || f.Pres == api.Absent && r.Rest == 0 {
			return false
		}
		before = f.Label
	}
	return r.Rest >= 0
}

// properField reports whether a field is as its presence asks, apart from its type if it has one.
func properField(f api.Field) bool {
	switch f.Pres {
	case api.Absent:
		return f.P == 0 && f.T.Kind == 0 && f.T.V == 0 && len(f.T.Args) == 0 && bare(f.T.Row)
	case api.Present:
		return f.P == 0
	case api.PresVar:
		return f.P > 0
	}
	return false
}

// agree reports whether the numbers in a type, apart from its parts, name what they have named so far.
func (n things) agree(t *api.Type) bool {
	for _, f := range t.Row.Fields {
		if f.Pres == api.PresVar && !n.is(f.P, thing{}) {
			return false
		}
	}
	if t.Row.Rest != 0 && !n.is(t.Row.Rest, thing{t.Kind, t.Row.Fields}) {
		return false
	}
	return t.Kind != api.TyVar || n.is(t.V, thing{kind: api.TyVar})
}

// is reports whether a number names a thing, which it does if it has named none so far.
func (n things) is(v int, x thing) bool {
	first, named := n[v]
	if !named {
		n[v] = x
		return true
	}
	return first.kind == x.kind && slices.EqualFunc(first.fields, x.fields, sameLabel)
}

func sameLabel(f, g api.Field) bool {
	return f.Label == g.Label
}

// Size returns how many parts a type has, or most + 1 if that is less.
func Size(t api.Type, most int) int {
	return count(&t, most, plainly)
}

// Canon returns a type with its variables numbered from 1 on, in the order in which they are visited.
func Canon(t api.Type) api.Type {
	s := New()
	numbers := map[int]int{}
	for i, v := range s.vars(&t) {
		numbers[v] = i + 1
	}
	t = s.resolved(t)
	for x := range places(&t) {
		x.V, x.Row.Rest = numbers[x.V], numbers[x.Row.Rest]
		for i := range x.Row.Fields {
			f := &x.Row.Fields[i]
			f.P = numbers[f.P]
		}
	}
	return t
}
