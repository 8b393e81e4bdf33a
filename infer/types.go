package infer

import (
	"cmp"
	"slices"

	"marquetry/api"
)

// plain returns a type that has no more than a Kind and its Args.
func plain(kind int, args ...api.Type) api.Type {
	return api.Type{Kind: kind, Args: args}
}

// A basic type is a Kind without Args.
type basic int

// term is the rule of terms that always have this type.
func (b basic) term(*api.Term) api.Type {
	return plain(int(b))
}

// pattern is the rule of patterns that always have this type.
func (b basic) pattern(*api.TPat) api.Type {
	return plain(int(b))
}

// present returns a field that is there.
func present(label string, t api.Type) api.Field {
	return api.Field{Label: label, Pres: api.Present, T: t}
}

// record returns the type of records with some fields, which it puts in order, and a rest.
func record(l []api.Field, rest int) api.Type {
	slices.SortFunc(l, func(f, g api.Field) int { return cmp.Compare(f.Label, g.Label) })
	return api.Type{Kind: api.TyRecord, Row: api.Row{Fields: l, Rest: rest}}
}

// tags returns the type of what is tagged with a label, or as a rest says.
func tags(label string, t api.Type, rest int) api.Type {
	return api.Type{Kind: api.TyTags, Row: api.Row{Fields: []api.Field{present(label, t)}, Rest: rest}}
}

// rename replaces variables in a type by others.
func rename(t *api.Type, others map[int]int) {
	replace(&t.V, others)
	for i := range t.Args {
		rename(&t.Args[i], others)
	}
	for i := range t.Row.Fields {
		f := &t.Row.Fields[i]
		replace(&f.P, others)
		rename(&f.T, others)
	}
	replace(&t.Row.Rest, others)
}

// replace replaces a variable if there is another one for it.
func replace(v *int, others map[int]int) {
	if w, found := others[*v]; found {
		*v = w
	}
}
