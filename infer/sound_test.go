package infer_test

import (
	"math/rand"
	"strings"
	"testing"

	"marquetry/api"
	"marquetry/eval"
	"marquetry/infer"
	"marquetry/row"
)

// witness returns a term of a type, whatever its variables stand for, or of an instance of it.
func (m *maker) witness(t api.Type) api.Term {
	switch t.Kind {
	case api.TyInt:
		return number(1)
	case api.TyBool:
		return truth()
	case api.TyString:
		return api.Term{Kind: api.TString, S: "a"}
	case api.TyExn:
		return api.Term{Kind: api.TExn, S: "Foo"}
	case api.TyFun:
		return fun(m.bind(), m.witness(t.Args[1]))
	case api.TyRef:
		return op(api.OpRef, m.witness(t.Args[0]))
	case api.TyArray:
		return op(api.OpArray, number(2), m.witness(t.Args[0]))
	case api.TyRecord:
		x := of(api.TRecord)
		for _, f := range t.Row.Fields {
			if f.Pres == api.Present || f.Pres == api.PresVar && m.Intn(2) == 0 {
				x.Labels, x.Args = append(x.Labels, f.Label), append(x.Args, m.witness(f.T))
			}
		}
		return x
	case api.TyTags:
		f := t.Row.Fields[m.Intn(len(t.Row.Fields))]
		return named(api.TTag, f.Label, m.witness(f.T))
	}
	return unit()
}

// shown reports whether a text may be that of a value of a type.
func shown(t api.Type, text string) bool {
	switch t.Kind {
	case api.TyInt:
		return strings.Trim(text, "-0123456789") == ""
	case api.TyBool:
		return text == "true" || text == "false"
	case api.TyString:
		return strings.HasPrefix(text, "\"")
	case api.TyExn:
		return text == "Foo" || text == "Bar" || text == "Match" || text == "Bounds" || text == "Size" || text == "Divide"
	}
	want := map[int]string{api.TyUnit: "()", api.TyFun: "<fun>", api.TyRecord: "<record>", api.TyTags: "<tag>", api.TyRef: "<ref>", api.TyArray: "<array>"}[t.Kind]
	return text == want && want != "" // There are no values of all types.
}

// sound fails if a term of a type is stuck, or comes to what is not of that type; likewise what is in it. It returns how many
// terms were run.
func (m *maker) sound(t *testing.T, x api.Term, typ api.Type, depth int) int {
	t.Helper()
	o := eval.Run(x, "AB", 3000)
	if o.Kind == api.Stuck || o.Kind == api.Done && !strings.HasPrefix(o.Result, "raise ") && !shown(typ, o.Result) {
		t.Fatalf("%+v of type %s: %+v", x, row.Text(typ), o)
	}
	if o.Kind != api.Done || strings.HasPrefix(o.Result, "raise ") || depth == 0 {
		return 1
	}
	n := 1
	for _, y := range m.inside(x, typ) {
		inner, e, at := infer.Infer(y)
		if e != api.OK {
			t.Fatalf("%+v in one of type %s: %d at %d", y, row.Text(typ), e, at)
		}
		if y.Kind == api.TMatch && eval.Run(y, "AB", 3100).Result == "raise Match" {
			t.Fatalf("%+v of type %s is tagged otherwise", x, row.Text(typ))
		}
		n += m.sound(t, y, inner, depth-1)
	}
	return n
}

// inside returns terms that come to what is within a value of a type.
func (m *maker) inside(x api.Term, t api.Type) []api.Term {
	var l []api.Term
	switch t.Kind {
	case api.TyFun:
		l = append(l, of(api.TApp, x, m.witness(t.Args[0])))
	case api.TyRef:
		l = append(l, op(api.OpDeref, x))
	case api.TyArray:
		l = append(l, op(api.OpGet, x, number(0)))
	case api.TyRecord:
		for _, f := range t.Row.Fields {
			if f.Pres == api.Present {
				l = append(l, named(api.TField, f.Label, x))
			}
		}
	case api.TyTags:
		var tags []api.TPat
		for _, f := range t.Row.Fields {
			v := m.bind()
			is := func(p api.TPat) api.TPat { return api.TPat{Kind: api.PTag, S: f.Label, Args: []api.TPat{p}} }
			tags = append(tags, is(api.TPat{Kind: api.PAny}))
			one := match(x, raised(), is(api.TPat{Kind: api.PVar, V: v}), api.TPat{Kind: api.PAny})
			one.Cases[0].Body = use(v)
			l = append(l, one)
		}
		l = append(l, match(x, unit(), tags...))
	}
	return l
}

// TestP11_2_Sound: a term that has a type is never stuck, and comes to a value of that type.
func TestP11_2_Sound(t *testing.T) {
	m := &maker{Rand: rand.New(rand.NewSource(1123))}
	run, typed := 0, newTally()
	for i := range 40000 {
		x := m.random(1 + i%6)
		found, e, _ := infer.Infer(x)
		if e == api.OK {
			typed.term(x)
			run += m.sound(t, x, found, 3)
		}
	}
	typed.ask(t, 20)
	if run < 20000 {
		t.Errorf("%d runs", run)
	}
}
