package row

import (
	"slices"
	"strconv"
	"strings"

	"marquetry/api"
)

// A piece is what a type's text consists of: a text, or a type whose text stands there.
type piece struct {
	text string
	t    *api.Type
}

// Text returns a type's text.
func Text(t api.Type) string {
	var b strings.Builder
	todo := []piece{{t: &t}}
	for len(todo) > 0 {
		p := todo[len(todo)-1]
		todo = todo[:len(todo)-1]
		b.WriteString(p.text)
		if p.t != nil {
			l := pieces(p.t)
			slices.Reverse(l)
			todo = append(todo, l...)
		}
	}
	return b.String()
}

// pieces returns what a type's text consists of.
func pieces(t *api.Type) []piece {
	switch t.Kind {
	case api.TyVar:
		return []piece{{text: "'" + strconv.Itoa(t.V)}}
	case api.TyInt:
		return []piece{{text: "int"}}
	case api.TyBool:
		return []piece{{text: "bool"}}
	case api.TyString:
		return []piece{{text: "string"}}
	case api.TyUnit:
		return []piece{{text: "unit"}}
	case api.TyExn:
		return []piece{{text: "exn"}}
	case api.TyFun:
		return []piece{{text: "("}, arg(t, 0), {text: " -> "}, arg(t, 1), {text: ")"}}
	case api.TyRef:
		return []piece{{text: "("}, arg(t, 0), {text: " ref)"}}
	case api.TyArray:
		return []piece{{text: "("}, arg(t, 0), {text: " array)"}}
	case api.TyRecord:
		return rowPieces("{", t.Row, "}")
	case api.TyTags:
		return rowPieces("[", t.Row, "]")
	}
	return []piece{{text: "?"}}
}

// arg returns the piece of an Arg, which may be missing.
func arg(t *api.Type, i int) piece {
	if i < len(t.Args) {
		return piece{t: &t.Args[i]}
	}
	return piece{text: "?"}
}

// rowPieces returns what a row's text consists of, between these two.
func rowPieces(open string, r api.Row, end string) []piece {
	l := []piece{{text: open}}
	for i := range r.Fields {
		if i > 0 {
			l = append(l, piece{text: ", "})
		}
		l = append(l, fieldPieces(&r.Fields[i])...)
	}
	if r.Rest != 0 {
		l = append(l, piece{text: "| " + strconv.Itoa(r.Rest)})
	}
	return append(l, piece{text: end})
}

// fieldPieces returns what a field's text consists of.
func fieldPieces(f *api.Field) []piece {
	switch f.Pres {
	case api.Absent:
		return []piece{{text: f.Label + "!"}}
	case api.Present:
		return []piece{{text: f.Label + ": "}, {t: &f.T}}
	}
	return []piece{{text: f.Label + "?" + strconv.Itoa(f.P) + ": "}, {t: &f.T}}
}
