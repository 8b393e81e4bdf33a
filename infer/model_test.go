package infer_test

import (
	"cmp"
	"maps"
	"math/rand"
	"slices"
	"strings"
	"testing"

	"marquetry/api"
	"marquetry/resolve"
	"marquetry/row"
)

// A scheme is what a model's environment has for a variable of the term.
type scheme struct {
	v       int
	t       api.Type
	general map[int]bool
}

// A model says the chapter's words once more: what is in the environment is a list, all of which is looked at where a type is
// generalized, and the operations' types are read from texts.
type model struct{ *row.Solver }

// modelled returns what Infer should return.
func modelled(x api.Term) (f finding) {
	if !resolve.May(x) {
		return fails(api.ErrForm, 0)
	}
	defer func() {
		if r := recover(); r != nil {
			f = r.(finding)
		}
	}()
	m := model{row.New()}
	return finding{text: row.Text(row.Canon(m.Apply(m.term(x, nil))))}
}

func (m model) is(t, u api.Type, at int) {
	if e := m.Unify(t, u); e != api.OK {
		panic(fails(e, at))
	}
}

func (m model) typeVar() api.Type { return api.Type{Kind: api.TyVar, V: m.Fresh()} }

func plain(kind int, args ...api.Type) api.Type { return api.Type{Kind: kind, Args: args} }

func rowed(kind, rest int, l ...api.Field) api.Type {
	slices.SortFunc(l, func(f, g api.Field) int { return cmp.Compare(f.Label, g.Label) })
	return api.Type{Kind: kind, Row: api.Row{Fields: l, Rest: rest}}
}

func there(label string, t api.Type) api.Field {
	return api.Field{Label: label, Pres: api.Present, T: t}
}

func with(env []scheme, v int, t api.Type, general map[int]bool) []scheme {
	return append(env[:len(env):len(env)], scheme{v, t, general})
}

// generalized returns the general variables of a type.
func (m model) generalized(t api.Type, env []scheme) map[int]bool {
	l := map[int]bool{}
	for _, v := range m.Vars(t) {
		l[v] = true
	}
	for _, s := range env {
		for _, v := range m.Vars(s.t) {
			if !s.general[v] {
				delete(l, v)
			}
		}
	}
	return l
}

// copied returns a resolved type with new variables, each made where it is first met.
func (m model) copied(t api.Type, general map[int]bool, others map[int]int) api.Type {
	other := func(v int) int {
		if !general[v] {
			return v
		}
		if others[v] == 0 {
			others[v] = m.Fresh()
		}
		return others[v]
	}
	c := api.Type{Kind: t.Kind, V: other(t.V)}
	for _, a := range t.Args {
		c.Args = append(c.Args, m.copied(a, general, others))
	}
	for _, f := range t.Row.Fields {
		g := api.Field{Label: f.Label, Pres: f.Pres, P: other(f.P)}
		if f.Pres != api.Absent {
			g.T = m.copied(f.T, general, others)
		}
		c.Row.Fields = append(c.Row.Fields, g)
	}
	c.Row.Rest = other(t.Row.Rest)
	return c
}

func (m model) term(x api.Term, env []scheme) api.Type {
	t := m.steps(x, env)
	if m.Size(t, api.MaxType) > api.MaxType {
		panic(fails(api.ErrMany, x.At))
	}
	return t
}

func (m model) steps(x api.Term, env []scheme) api.Type {
	arg := func(i int) api.Type { return m.term(x.Args[i], env) }
	switch x.Kind {
	case api.TVar:
		i := slices.IndexFunc(env, func(s scheme) bool { return s.v == x.V })
		if m.Size(env[i].t, api.MaxType) > api.MaxType {
			panic(fails(api.ErrMany, x.At))
		}
		return m.copied(m.Apply(env[i].t), env[i].general, map[int]int{})
	case api.TFun:
		from := m.typeVar()
		to := m.term(x.Args[0], with(env, x.V, from, nil))
		return plain(api.TyFun, from, to)
	case api.TApp:
		a := arg(0)
		b := arg(1)
		r := m.typeVar()
		m.is(a, plain(api.TyFun, b, r), x.At)
		return r
	case api.TLet:
		a := arg(0)
		var general map[int]bool
		if isValue(x.Args[0]) {
			general = m.generalized(a, env)
		}
		return m.term(x.Args[1], with(env, x.V, a, general))
	case api.TRec:
		v := m.typeVar()
		a := m.term(x.Args[0], with(env, x.V, v, nil))
		m.is(v, a, x.Args[0].At)
		return m.term(x.Args[1], with(env, x.V, v, m.generalized(v, env)))
	case api.TIf:
		a := arg(0)
		m.is(a, plain(api.TyBool), x.Args[0].At)
		b := arg(1)
		c := arg(2)
		m.is(b, c, x.Args[2].At)
		return b
	case api.TTry:
		a := arg(0)
		b := m.term(x.Args[1], with(env, x.V, plain(api.TyExn), nil))
		m.is(a, b, x.Args[1].At)
		return a
	case api.TRaise:
		a := arg(0)
		m.is(a, plain(api.TyExn), x.Args[0].At)
		return m.typeVar()
	case api.TMatch:
		return m.match(x, env)
	case api.TOp:
		return m.operation(x, env)
	}
	return m.data(x, arg)
}

// data does so for the terms that are numbers and the like, records, and tags.
func (m model) data(x api.Term, arg func(int) api.Type) api.Type {
	switch x.Kind {
	case api.TRecord:
		var l []api.Field
		for i := range x.Args {
			l = append(l, there(x.Labels[i], arg(i)))
		}
		return rowed(api.TyRecord, 0, l...)
	case api.TWith:
		a := arg(0)
		b := arg(1)
		p, t, r := m.Fresh(), m.typeVar(), m.Fresh()
		m.is(a, rowed(api.TyRecord, r, api.Field{Label: x.S, Pres: api.PresVar, P: p, T: t}), x.Args[0].At)
		return rowed(api.TyRecord, r, there(x.S, b))
	case api.TField:
		a := arg(0)
		t, r := m.typeVar(), m.Fresh()
		m.is(a, rowed(api.TyRecord, r, there(x.S, t)), x.Args[0].At)
		return t
	case api.TTag:
		a := arg(0)
		return rowed(api.TyTags, m.Fresh(), there(x.S, a))
	}
	return plain(map[int]int{api.TInt: api.TyInt, api.TString: api.TyString, api.TBool: api.TyBool, api.TUnit: api.TyUnit, api.TExn: api.TyExn}[x.Kind])
}

func (m model) match(x api.Term, env []scheme) api.Type {
	a := m.term(x.Args[0], env)
	r := m.typeVar()
	for _, c := range x.Cases {
		inner := env
		p := m.pattern(c.P, &inner)
		m.is(a, p, x.At)
		b := m.term(c.Body, inner)
		m.is(r, b, c.Body.At)
	}
	return r
}

func (m model) pattern(p api.TPat, env *[]scheme) api.Type {
	switch p.Kind {
	case api.PAny:
		return m.typeVar()
	case api.PVar:
		t := m.typeVar()
		*env = with(*env, p.V, t, nil)
		return t
	case api.PTag:
		t := m.pattern(p.Args[0], env)
		return rowed(api.TyTags, m.Fresh(), there(p.S, t))
	case api.PRecord:
		var l []api.Field
		for i := range p.Args {
			l = append(l, there(p.Labels[i], m.pattern(p.Args[i], env)))
		}
		return rowed(api.TyRecord, m.Fresh(), l...)
	}
	return plain(map[int]int{api.PInt: api.TyInt, api.PString: api.TyString, api.PBool: api.TyBool, api.PUnit: api.TyUnit, api.PExn: api.TyExn}[p.Kind])
}

// operations are the types of operands and results.
var operations = map[int64]string{
	api.OpAdd: "int, int; int", api.OpSub: "int, int; int", api.OpMul: "int, int; int", api.OpDiv: "int, int; int",
	api.OpRem: "int, int; int", api.OpNeg: "int; int", api.OpEq: "int, int; bool", api.OpLt: "int, int; bool",
	api.OpNot: "bool; bool", api.OpRef: "'a; 'a ref", api.OpDeref: "'a ref; 'a", api.OpAssign: "'a ref, 'a; unit",
	api.OpArray: "int, 'a; 'a array", api.OpGet: "'a array, int; 'a", api.OpSet: "'a array, int, 'a; unit",
	api.OpLen: "'a array; int", api.OpSize: "string; int", api.OpByte: "string, int; int",
	api.OpCat: "string, string; string", api.OpGetc: "unit; int", api.OpPutc: "int; unit",
}

func (m model) operation(x api.Term, env []scheme) api.Type {
	var a api.Type
	if strings.Contains(operations[x.N], "'a") {
		a = m.typeVar()
	}
	stated := func(text string) api.Type {
		switch text {
		case "'a":
			return a
		case "'a ref":
			return plain(api.TyRef, a)
		case "'a array":
			return plain(api.TyArray, a)
		}
		return plain(map[string]int{"int": api.TyInt, "bool": api.TyBool, "string": api.TyString, "unit": api.TyUnit}[text])
	}
	operands, result, _ := strings.Cut(operations[x.N], "; ")
	for i, o := range strings.Split(operands, ", ") {
		t := m.term(x.Args[i], env)
		m.is(t, stated(o), x.Args[i].At)
	}
	return stated(result)
}

// isValue reports whether a term is a syntactic value.
func isValue(x api.Term) bool {
	if x.Kind == api.TTag || x.Kind == api.TRecord {
		return !slices.ContainsFunc(x.Args, func(a api.Term) bool { return !isValue(a) })
	}
	return slices.Contains([]int{api.TVar, api.TInt, api.TString, api.TBool, api.TUnit, api.TExn, api.TFun}, x.Kind)
}

// A tally counts what the kinds of terms, operations and patterns were in what was tried, and the errors.
type tally struct{ kinds, ops, pats, errs map[int]int }

func newTally() tally { return tally{map[int]int{}, map[int]int{}, map[int]int{}, map[int]int{}} }

func (c tally) term(x api.Term) {
	c.kinds[x.Kind]++
	if x.Kind == api.TOp {
		c.ops[int(x.N)]++
	}
	for _, a := range x.Args {
		c.term(a)
	}
	for _, k := range x.Cases {
		c.pattern(k.P)
		c.term(k.Body)
	}
}

func (c tally) pattern(p api.TPat) {
	c.pats[p.Kind]++
	for _, a := range p.Args {
		c.pattern(a)
	}
}

// ask fails if too few of something were tried.
func (c tally) ask(t *testing.T, least int) {
	t.Helper()
	for what, l := range map[string][]int{
		"kind":      {len(c.kinds), api.TOp},
		"operation": {len(c.ops), api.OpPutc},
		"pattern":   {len(c.pats), api.PRecord},
	} {
		counts := map[string]map[int]int{"kind": c.kinds, "operation": c.ops, "pattern": c.pats}[what]
		if l[0] != l[1] || slices.Min(slices.Collect(maps.Values(counts))) < least {
			t.Errorf("%s: %v", what, counts)
		}
	}
}

// TestP11_1_Model holds random terms against the model.
func TestP11_1_Model(t *testing.T) {
	m := &maker{Rand: rand.New(rand.NewSource(111))}
	typed := newTally()
	for i := range 40000 {
		m.large = i%12 == 1
		x := m.random(1 + i%6)
		if i%3 == 0 {
			x = m.small(2+i%5, 9)
		}
		want, got := modelled(x), find(x)
		if got != want {
			t.Fatalf("%+v: %v, want %v", x, got, want)
		}
		typed.errs[int(got.errno)]++
		if got.errno == api.OK {
			typed.term(x)
		}
	}
	typed.ask(t, 10)
	for _, e := range []api.Errno{api.OK, api.ErrMany, api.ErrType, api.ErrOccurs} {
		if typed.errs[int(e)] < 50 {
			t.Errorf("errors: %v", typed.errs)
		}
	}
}
