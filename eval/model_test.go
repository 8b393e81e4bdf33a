package eval_test

import (
	"fmt"
	"math/big"
	"math/rand"
	"slices"
	"strings"
	"testing"

	"marquetry/api"
	"marquetry/eval"
	"marquetry/resolve"
)

// A model says the chapter's words once more: terms call each other, variables are bound in a list that is searched from
// its end, what raises or ends the run panics, and a value has the fields of all kinds.
type model struct {
	fuel  int64
	input []byte
	out   []byte
}

// A thing is a value: kind is one of the letters of samples.
type thing struct {
	kind   byte
	n      int64
	s      string
	apply  func(thing) thing
	fields []field
	cells  *[]thing
}

type field struct {
	label string
	is    thing
}

type binding struct {
	v  int
	is *thing
}

type raised string // an exception

type over int // the kind of an outcome

// modelled returns what Run should return.
func modelled(t api.Term, input string, fuel int64) (o api.Outcome) {
	if !resolve.May(t) {
		return stuck("")
	}
	m := &model{fuel: max(fuel, 0), input: []byte(input)}
	defer func() {
		o.Out = string(m.out)
		switch r := recover().(type) {
		case nil:
		case raised:
			o.Kind, o.Result = api.Done, "raise "+string(r)
		case over:
			o.Kind = int(r)
		default:
			panic(r)
		}
	}()
	v := m.term(t, nil)
	o.Kind, o.Result = api.Done, v.text()
	return o
}

func (v thing) text() string {
	switch v.kind {
	case 'n':
		return fmt.Sprint(v.n)
	case 'b':
		return fmt.Sprint(v.n == 1)
	case 's':
		b := `"`
		for _, c := range []byte(v.s) {
			switch {
			case c == '"' || c == '\\':
				b += `\` + string(rune(c))
			case c == '\n':
				b += `\n`
			case c < 32 || c > 126:
				b += fmt.Sprintf(`\x%02x`, c)
			default:
				b += string(rune(c))
			}
		}
		return b + `"`
	}
	return map[byte]string{'u': "()", 'x': v.s, 'f': "<fun>", 'r': "<record>", 't': "<tag>", 'p': "<ref>", 'a': "<array>"}[v.kind]
}

// ask ends the run where a value is of another kind.
func (v thing) ask(kind byte) thing {
	if v.kind != kind {
		panic(over(api.Stuck))
	}
	return v
}

// at returns the value at a label.
func (v thing) at(label string) thing {
	for _, f := range v.ask('r').fields {
		if f.label == label {
			return f.is
		}
	}
	panic(over(api.Stuck))
}

func truth(b bool) thing {
	if b {
		return thing{kind: 'b', n: 1}
	}
	return thing{kind: 'b'}
}

func bind(env []binding, v int, is *thing) []binding {
	return append(env[:len(env):len(env)], binding{v, is})
}

func (m *model) term(t api.Term, env []binding) thing {
	if m.fuel == 0 {
		panic(over(api.Fuel))
	}
	m.fuel--
	arg := func(i int) thing { return m.term(t.Args[i], env) }
	switch t.Kind {
	case api.TVar:
		for i := len(env) - 1; ; i-- {
			if env[i].v == t.V {
				return *env[i].is
			}
		}
	case api.TInt:
		return thing{kind: 'n', n: t.N}
	case api.TString:
		return thing{kind: 's', s: t.S}
	case api.TBool:
		return thing{kind: 'b', n: t.N}
	case api.TUnit:
		return thing{kind: 'u'}
	case api.TExn:
		return thing{kind: 'x', s: t.S}
	case api.TFun:
		return thing{kind: 'f', apply: func(x thing) thing { return m.term(t.Args[0], bind(env, t.V, &x)) }}
	case api.TApp:
		f, x := arg(0), arg(1)
		return f.ask('f').apply(x)
	case api.TLet:
		x := arg(0)
		return m.term(t.Args[1], bind(env, t.V, &x))
	case api.TRec:
		f := new(thing)
		inner := bind(env, t.V, f)
		*f = m.term(t.Args[0], inner)
		return m.term(t.Args[1], inner)
	case api.TIf:
		if arg(0).ask('b').n == 1 {
			return arg(1)
		}
		return arg(2)
	case api.TRecord:
		r := thing{kind: 'r'}
		for i, l := range t.Labels {
			r.fields = append(r.fields, field{l, arg(i)})
		}
		return r
	case api.TWith:
		r, x := arg(0), arg(1)
		l := []field{{t.S, x}}
		for _, f := range r.ask('r').fields {
			if f.label != t.S {
				l = append(l, f)
			}
		}
		return thing{kind: 'r', fields: l}
	case api.TField:
		return arg(0).at(t.S)
	case api.TTag:
		x := arg(0)
		return thing{kind: 't', s: t.S, cells: &[]thing{x}}
	case api.TMatch:
		x := arg(0)
		for _, c := range t.Cases {
			inner := slices.Clone(env)
			if matches(c.P, x, &inner) {
				return m.term(c.Body, inner)
			}
		}
		panic(raised("Match"))
	case api.TTry:
		return m.try(t, env)
	case api.TRaise:
		panic(raised(arg(0).ask('x').s))
	case api.TOp:
		var l []thing
		for i := range t.Args {
			l = append(l, arg(i))
		}
		return m.op(int(t.N), l)
	}
	panic(t.Kind)
}

func (m *model) try(t api.Term, env []binding) (v thing) {
	caught, x := false, thing{kind: 'x'}
	func() {
		defer func() {
			switch r := recover().(type) {
			case nil:
			case raised:
				caught, x.s = true, string(r)
			default:
				panic(r)
			}
		}()
		v = m.term(t.Args[0], env)
	}()
	if caught {
		return m.term(t.Args[1], bind(env, t.V, &x))
	}
	return v
}

func matches(p api.TPat, x thing, env *[]binding) bool {
	switch p.Kind {
	case api.PAny:
		return true
	case api.PVar:
		*env = append(*env, binding{p.V, &x})
		return true
	case api.PInt:
		return x.ask('n').n == p.N
	case api.PString:
		return x.ask('s').s == p.S
	case api.PBool:
		return x.ask('b').n == p.N
	case api.PUnit:
		return x.ask('u').kind == 'u'
	case api.PExn:
		return x.ask('x').s == p.S
	case api.PTag:
		return x.ask('t').s == p.S && matches(p.Args[0], (*x.cells)[0], env)
	}
	x.ask('r')
	for i, l := range p.Labels {
		if !matches(p.Args[i], x.at(l), env) {
			return false
		}
	}
	return true
}

// wrapped brings a number into 63 bits.
func wrapped(n *big.Int) thing {
	half := new(big.Int).Lsh(big.NewInt(1), 62)
	n = new(big.Int).Add(n, half)
	n.Mod(n, new(big.Int).Lsh(big.NewInt(1), 63))
	return thing{kind: 'n', n: n.Sub(n, half).Int64()}
}

func (m *model) op(op int, l []thing) thing {
	for i := range l {
		if k := operations[op].kinds[i]; k != '*' {
			l[i].ask(k)
		}
	}
	a, b := big.NewInt(l[0].n), big.NewInt(l[len(l)-1].n)
	switch op {
	case api.OpAdd:
		return wrapped(a.Add(a, b))
	case api.OpSub:
		return wrapped(a.Sub(a, b))
	case api.OpMul:
		return wrapped(a.Mul(a, b))
	case api.OpNeg:
		return wrapped(a.Neg(a))
	case api.OpDiv, api.OpRem:
		if l[1].n == 0 {
			panic(raised("Divide"))
		}
		quotient, rest := a.QuoRem(a, b, new(big.Int))
		if op == api.OpDiv {
			return wrapped(quotient)
		}
		return wrapped(rest)
	case api.OpEq:
		return truth(l[0].n == l[1].n)
	case api.OpLt:
		return truth(l[0].n < l[1].n)
	case api.OpNot:
		return truth(l[0].n == 0)
	case api.OpRef:
		return thing{kind: 'p', cells: &[]thing{l[0]}}
	case api.OpDeref:
		return (*l[0].cells)[0]
	case api.OpAssign:
		(*l[0].cells)[0] = l[1]
	case api.OpArray:
		if l[0].n < 0 || l[0].n > 256 {
			panic(raised("Size"))
		}
		cells := slices.Repeat([]thing{l[1]}, int(l[0].n))
		return thing{kind: 'a', cells: &cells}
	case api.OpGet, api.OpSet:
		cells := *l[0].cells
		if l[1].n < 0 || l[1].n >= int64(len(cells)) {
			panic(raised("Bounds"))
		}
		if op == api.OpGet {
			return cells[l[1].n]
		}
		cells[l[1].n] = l[2]
	case api.OpLen:
		return thing{kind: 'n', n: int64(len(*l[0].cells))}
	case api.OpSize:
		return thing{kind: 'n', n: int64(len(l[0].s))}
	case api.OpByte:
		if l[1].n < 0 || l[1].n >= int64(len(l[0].s)) {
			panic(raised("Bounds"))
		}
		return thing{kind: 'n', n: int64(l[0].s[l[1].n])}
	case api.OpCat:
		if len(l[0].s)+len(l[1].s) > 4096 {
			panic(raised("Size"))
		}
		return thing{kind: 's', s: l[0].s + l[1].s}
	case api.OpGetc:
		if len(m.input) == 0 {
			return thing{kind: 'n', n: -1}
		}
		c := m.input[0]
		m.input = m.input[1:]
		return thing{kind: 'n', n: int64(c)}
	case api.OpPutc:
		m.out = append(m.out, byte(((l[0].n%256)+256)%256))
	}
	return thing{kind: 'u'}
}

// A maker makes random terms. A term of a kind is mostly one that evaluates to a value of that kind, unless it raises.
type maker struct {
	*rand.Rand
	next int
}

func pick[T any](m *maker, l ...T) T { return l[m.Intn(len(l))] }

// A variable of a term that is made.
type variable struct {
	v    int
	kind byte
}

func (m *maker) fresh() int {
	m.next += 1 + m.Intn(3)
	return m.next
}

func op(n int64, args ...api.Term) api.Term { return api.Term{Kind: api.TOp, N: n, Args: args} }

func number(n int64) api.Term { return api.Term{Kind: api.TInt, N: n} }

func (m *maker) name() string { return pick(m, "A", "B", "Match", "Divide", "Bounds", "Size") }

func (m *maker) number() int64 {
	return pick[int64](m, 0, 0, 1, 1, 2, 3, -1, 65, 255, 256, 257, 300, 1<<62-1, -1<<62, m.Int63n(1<<40))
}

// any returns a term of any kind.
func (m *maker) any(depth int, vars []variable) api.Term {
	return m.term(pick(m, []byte("nnnbbsuxfrrttpa")...), depth, vars)
}

// term returns a term of a kind. Functions take and return numbers; records have an a that is a number, a b that is a
// boolean, and others; what is tagged A is a number, what is tagged B a record; references and arrays have numbers.
func (m *maker) term(kind byte, depth int, vars []variable) api.Term {
	if m.Intn(60) == 0 {
		kind = pick(m, []byte("nbsuxfrtpa")...)
	}
	if depth > 0 && m.Intn(5) > 1 {
		return m.control(kind, depth-1, vars)
	}
	if m.Intn(2) == 0 {
		for _, i := range m.Perm(len(vars)) {
			if vars[i].kind == kind {
				return api.Term{Kind: api.TVar, V: vars[i].v}
			}
		}
	}
	if depth == 0 {
		return m.leaf(kind, vars)
	}
	return m.made(kind, depth-1, vars)
}

func (m *maker) leaf(kind byte, vars []variable) api.Term {
	switch kind {
	case 'n':
		return number(m.number())
	case 'b':
		return api.Term{Kind: api.TBool, N: m.Int63n(2)}
	case 's':
		return api.Term{Kind: api.TString, S: pick(m, "", "a", "\x00\"\\\n\xff", strings.Repeat("s", 4000))}
	case 'u':
		return api.Term{Kind: api.TUnit}
	case 'x':
		return api.Term{Kind: api.TExn, S: m.name()}
	case 'f':
		v := m.fresh()
		return api.Term{Kind: api.TFun, V: v, Args: []api.Term{m.term('n', 0, append(vars[:len(vars):len(vars)], variable{v, 'n'}))}}
	case 'r':
		l := []string{"a", "b", "c"}
		r := []api.Term{m.leaf('n', vars), m.leaf('b', vars), m.leaf('u', vars)}
		if m.Intn(2) == 0 {
			l[0], l[1], r[0], r[1] = l[1], l[0], r[1], r[0]
		}
		n := pick(m, 2, 3)
		return api.Term{Kind: api.TRecord, Labels: l[:n], Args: r[:n]}
	case 't':
		if m.Intn(2) == 0 {
			return api.Term{Kind: api.TTag, S: "B", Args: []api.Term{m.leaf('r', vars)}}
		}
		return api.Term{Kind: api.TTag, S: "A", Args: []api.Term{m.leaf('n', vars)}}
	case 'p':
		return op(api.OpRef, m.leaf('n', vars))
	}
	return op(api.OpArray, number(m.Int63n(4)), m.leaf('n', vars))
}

// made returns a term whose own kind makes a value of this kind.
func (m *maker) made(kind byte, depth int, vars []variable) api.Term {
	sub := func(kind byte) api.Term { return m.term(kind, depth, vars) }
	switch kind {
	case 'n':
		switch m.Intn(9) {
		case 0:
			return op(pick[int64](m, api.OpDiv, api.OpRem), sub('n'), sub('n'))
		case 1:
			return op(api.OpNeg, sub('n'))
		case 2:
			return op(api.OpDeref, sub('p'))
		case 3:
			return op(api.OpGet, sub('a'), pick(m, number(0), number(1), sub('n')))
		case 4:
			return pick(m, op(api.OpLen, sub('a')), op(api.OpSize, sub('s')))
		case 5:
			return op(api.OpByte, sub('s'), pick(m, number(0), number(1), sub('n')))
		case 6:
			return op(api.OpGetc, sub('u'))
		case 7:
			return api.Term{Kind: api.TField, S: "a", Args: []api.Term{sub('r')}}
		}
		return op(pick[int64](m, api.OpAdd, api.OpSub, api.OpMul), sub('n'), sub('n'))
	case 'b':
		return pick(m, op(api.OpEq, sub('n'), sub('n')), op(api.OpLt, sub('n'), sub('n')), op(api.OpNot, sub('b')), api.Term{Kind: api.TField, S: "b", Args: []api.Term{sub('r')}})
	case 's':
		return op(api.OpCat, sub('s'), sub('s'))
	case 'u':
		return pick(m, op(api.OpAssign, sub('p'), sub('n')), op(api.OpSet, sub('a'), pick(m, number(0), number(1), sub('n')), sub('n')), op(api.OpPutc, sub('n')), op(api.OpPutc, sub('n')))
	case 'f':
		v := m.fresh()
		return api.Term{Kind: api.TFun, V: v, Args: []api.Term{m.term('n', depth, append(vars[:len(vars):len(vars)], variable{v, 'n'}))}}
	case 'r':
		if m.Intn(2) == 0 {
			return api.Term{Kind: api.TRecord, Labels: []string{"b", "d", "a"}, Args: []api.Term{sub('b'), m.any(depth, vars), sub('n')}}
		}
		return pick(m, api.Term{Kind: api.TWith, S: "a", Args: []api.Term{sub('r'), sub('n')}}, api.Term{Kind: api.TWith, S: pick(m, "c", "d"), Args: []api.Term{sub('r'), m.any(depth, vars)}})
	case 't':
		return pick(m, api.Term{Kind: api.TTag, S: "A", Args: []api.Term{sub('n')}}, api.Term{Kind: api.TTag, S: "B", Args: []api.Term{sub('r')}})
	case 'p':
		return op(api.OpRef, sub('n'))
	case 'a':
		return op(api.OpArray, pick(m, number(2), sub('n')), sub('n'))
	}
	return m.leaf(kind, vars)
}

// control returns a term whose parts decide what its value is.
func (m *maker) control(kind byte, depth int, vars []variable) api.Term {
	with := func(v int, k byte) []variable { return append(vars[:len(vars):len(vars)], variable{v, k}) }
	sub := func(kind byte) api.Term { return m.term(kind, depth, vars) }
	switch m.Intn(9) {
	case 0:
		if kind == 'n' {
			return api.Term{Kind: api.TApp, Args: []api.Term{sub('f'), sub('n')}}
		}
		v := m.fresh()
		f := api.Term{Kind: api.TFun, V: v, Args: []api.Term{m.term(kind, depth, with(v, 'n'))}}
		return api.Term{Kind: api.TApp, Args: []api.Term{f, sub('n')}}
	case 1, 2:
		v, k := m.fresh(), pick(m, []byte("nbsuxfrtpau")...)
		return api.Term{Kind: api.TLet, V: v, Args: []api.Term{sub(k), m.term(kind, depth, with(v, k))}}
	case 3:
		return m.loop(kind, depth, vars)
	case 4:
		return api.Term{Kind: api.TIf, Args: []api.Term{sub('b'), sub(kind), sub(kind)}}
	case 5, 6:
		k := pick(m, []byte("nbsuxrrttt")...)
		t := api.Term{Kind: api.TMatch, Args: []api.Term{sub(k)}}
		for range 1 + m.Intn(4) {
			inner := vars[:len(vars):len(vars)]
			p := m.pat(k, 2, &inner)
			t.Cases = append(t.Cases, api.Case{P: p, Body: m.term(kind, depth, inner)})
		}
		return t
	case 7:
		v := m.fresh()
		return api.Term{Kind: api.TTry, V: v, Args: []api.Term{sub(kind), m.term(kind, depth, with(v, 'x'))}}
	}
	if m.Intn(2) == 0 {
		return api.Term{Kind: api.TRaise, Args: []api.Term{sub('x')}}
	}
	return m.made(kind, depth, vars)
}

// loop returns a TRec whose function calls itself mostly with one less.
func (m *maker) loop(kind byte, depth int, vars []variable) api.Term {
	f, x := m.fresh(), m.fresh()
	inner := append(vars[:len(vars):len(vars)], variable{f, 'f'})
	body := append(inner[:len(inner):len(inner)], variable{x, 'n'})
	here := api.Term{Kind: api.TVar, V: x}
	less := api.Term{Kind: api.TApp, Args: []api.Term{{Kind: api.TVar, V: f}, op(api.OpSub, here, number(1))}}
	again := pick(m, less, op(api.OpAdd, m.term('n', depth, body), less), op(api.OpAdd, less, m.term('n', depth, body)))
	until := api.Term{Kind: api.TIf, Args: []api.Term{op(api.OpLt, here, number(1)), m.term('n', depth, body), again}}
	first := api.Term{Kind: api.TApp, Args: []api.Term{{Kind: api.TVar, V: f}, number(m.Int63n(5))}}
	v := m.fresh()
	seen := append(inner[:len(inner):len(inner)], variable{v, 'n'})
	return api.Term{Kind: api.TRec, V: f, Args: []api.Term{{Kind: api.TFun, V: x, Args: []api.Term{until}}, {Kind: api.TLet, V: v, Args: []api.Term{first, m.term(kind, depth, seen)}}}}
}

// pat returns a pattern that is mostly one for values of a kind, and adds its variables.
func (m *maker) pat(kind byte, depth int, vars *[]variable) api.TPat {
	if m.Intn(40) == 0 {
		kind = pick(m, []byte("nbsuxrt")...)
	}
	if m.Intn(4) == 0 || depth == 0 {
		if m.Intn(2) == 0 {
			return api.TPat{Kind: api.PAny}
		}
		v := m.fresh()
		*vars = append(*vars, variable{v, kind})
		return api.TPat{Kind: api.PVar, V: v}
	}
	switch kind {
	case 'n':
		return api.TPat{Kind: api.PInt, N: m.number()}
	case 'b':
		return api.TPat{Kind: api.PBool, N: m.Int63n(2)}
	case 's':
		return api.TPat{Kind: api.PString, S: pick(m, "", "a")}
	case 'u':
		return api.TPat{Kind: api.PUnit}
	case 'x':
		return api.TPat{Kind: api.PExn, S: m.name()}
	case 't':
		if m.Intn(2) == 0 {
			return api.TPat{Kind: api.PTag, S: "B", Args: []api.TPat{m.pat('r', depth-1, vars)}}
		}
		return api.TPat{Kind: api.PTag, S: "A", Args: []api.TPat{m.pat('n', depth-1, vars)}}
	case 'r':
		if m.Intn(8) == 0 {
			return api.TPat{Kind: api.PRecord, Labels: []string{"a", "c"}, Args: []api.TPat{m.pat('n', depth-1, vars), m.pat('u', depth-1, vars)}}
		}
		l := api.TPat{Kind: api.PRecord, Labels: []string{"b", "a"}, Args: []api.TPat{m.pat('b', depth-1, vars), m.pat('n', depth-1, vars)}}
		n := m.Intn(3)
		l.Labels, l.Args = l.Labels[:n], l.Args[:n]
		return l
	}
	return api.TPat{Kind: api.PAny}
}

// random returns the i-th of many terms.
func random(m *maker, i int) api.Term {
	m.next = 0
	for {
		t := m.any(1+i%6, nil)
		if resolve.May(t) {
			return t
		}
	}
}

// counted counts the kinds of the parts of a term.
func counted(t api.Term, kinds, ops, pats map[int]int) {
	kinds[t.Kind]++
	if t.Kind == api.TOp {
		ops[int(t.N)]++
	}
	for _, a := range t.Args {
		counted(a, kinds, ops, pats)
	}
	for _, c := range t.Cases {
		countedPat(c.P, pats)
		counted(c.Body, kinds, ops, pats)
	}
}

func countedPat(p api.TPat, pats map[int]int) {
	pats[p.Kind]++
	for _, a := range p.Args {
		countedPat(a, pats)
	}
}

// TestP9_1_Model holds random terms against the model.
func TestP9_1_Model(t *testing.T) {
	m := &maker{Rand: rand.New(rand.NewSource(91))}
	kinds, ops, pats, ends := map[int]int{}, map[int]int{}, map[int]int{}, map[string]int{}
	for i := range 20000 {
		x := random(m, i)
		input := pick(m, "", "A", "\x00\xff\x01B")
		fuel := pick(m, m.Int63n(20), m.Int63n(200), 3000)
		want := modelled(x, input, fuel)
		got := eval.Run(x, input, fuel)
		if got != want {
			t.Fatalf("%+v with %d fuel and %q: %q, want %q", x, fuel, input, fmt.Sprint(got), fmt.Sprint(want))
		}
		counted(x, kinds, ops, pats)
		end := fmt.Sprint(got.Kind)
		if name, is := strings.CutPrefix(got.Result, "raise "); is {
			end = name
		}
		ends[end]++
		if got.Out != "" {
			ends["out"]++
		}
	}
	for k := api.TVar; k <= api.TOp; k++ {
		if kinds[k] < 100 {
			t.Errorf("%d terms of kind %d only", kinds[k], k)
		}
	}
	for k := api.OpAdd; k <= api.OpPutc; k++ {
		if ops[k] < 100 {
			t.Errorf("%d operations %d only", ops[k], k)
		}
	}
	for k := api.PAny; k <= api.PRecord; k++ {
		if pats[k] < 100 {
			t.Errorf("%d patterns of kind %d only", pats[k], k)
		}
	}
	for _, end := range []string{"1", "2", "4", "A", "Match", "Divide", "Bounds", "Size", "out"} {
		if ends[end] < 100 {
			t.Errorf("%d ends %s only", ends[end], end)
		}
	}
}

// TestP9_2_Model: random terms with all amounts of fuel up to where they come to their end.
func TestP9_2_Model(t *testing.T) {
	m := &maker{Rand: rand.New(rand.NewSource(92))}
	tally := map[int]int{}
	for i := range 700 {
		x := random(m, i)
		last := eval.Run(x, "AB", 300)
		before := api.Outcome{Kind: api.Fuel}
		for fuel := range int64(300) {
			got := eval.Run(x, "AB", fuel)
			if before.Kind != api.Fuel && got != before || !strings.HasPrefix(got.Out, before.Out) || !strings.HasPrefix(last.Out, got.Out) || got.Kind == api.Fuel && got.Result != "" {
				t.Fatalf("%+v with %d fuel: %q, before %q", x, fuel, fmt.Sprint(got), fmt.Sprint(before))
			}
			before = got
		}
		tally[last.Kind]++
	}
	if tally[api.Done] < 300 || tally[api.Stuck] < 40 || tally[api.Fuel] < 10 {
		t.Errorf("%v", tally)
	}
}
