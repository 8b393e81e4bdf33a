package infer_test

import (
	"math/rand"
	"slices"

	"marquetry/api"
	"marquetry/resolve"
)

// A maker makes random terms. A hint is a letter for what a term should come to: a number, a boolean, a string, unit, an
// exception, a function, a record, something tagged, a reference, an array. What variables are is not known, so not all terms
// have a type.
type maker struct {
	*rand.Rand
	next int
	vars []int // those that are seen

	large bool // whether records are so large that some types become too large
}

const hints = "nbsuxfrtpaffrr"

func pick[T any](m *maker, l ...T) T { return l[m.Intn(len(l))] }

func (m *maker) bind() int {
	m.next++
	return m.next
}

// within returns a term in which some more variables are seen.
func (m *maker) within(hint byte, depth int, vars ...int) api.Term {
	defer func(l []int) { m.vars = l }(m.vars)
	m.vars = slices.Concat(m.vars, vars)
	return m.term(hint, depth)
}

func (m *maker) any(depth int) api.Term { return m.term(hints[m.Intn(len(hints))], depth) }

func (m *maker) term(hint byte, depth int) api.Term {
	if m.Intn(40) == 0 {
		hint = hints[m.Intn(len(hints))]
	}
	if len(m.vars) > 0 && m.Intn(3) == 0 || depth <= 0 && m.Intn(2) == 0 && len(m.vars) > 0 {
		return use(m.vars[len(m.vars)-1-min(m.Intn(len(m.vars)), m.Intn(len(m.vars)))])
	}
	if depth <= 0 {
		return m.leaf(hint)
	}
	if m.Intn(2) == 0 {
		return m.made(hint, depth-1)
	}
	return m.control(hint, depth-1)
}

func (m *maker) leaf(hint byte) api.Term {
	switch hint {
	case 'n':
		return number(m.Int63n(3))
	case 'b':
		return truth()
	case 's':
		return api.Term{Kind: api.TString, S: pick(m, "", "ab")}
	case 'x':
		return api.Term{Kind: api.TExn, S: pick(m, "Foo", "Bar")}
	case 'f':
		v := m.bind()
		return fun(v, m.within('n', 0, v))
	case 'r':
		if m.large {
			return sized(100 + m.Intn(400))
		}
		return m.record(m.Intn(3), 0)
	case 't':
		return named(api.TTag, pick(m, "A", "B"), m.term('n', 0))
	case 'p':
		return op(api.OpRef, m.term('n', 0))
	case 'a':
		return op(api.OpArray, number(2), m.term('n', 0))
	}
	return unit()
}

func (m *maker) record(n, depth int) api.Term {
	x := of(api.TRecord)
	for _, i := range m.Perm(3)[:n] {
		x.Labels = append(x.Labels, "abc"[i:i+1])
		x.Args = append(x.Args, m.any(depth-1))
	}
	return x
}

// made returns a term of a kind that comes to what the hint says, whatever its parts are.
func (m *maker) made(hint byte, depth int) api.Term {
	sub := func(hint byte) api.Term { return m.term(hint, depth) }
	switch hint {
	case 'n':
		return pick(m,
			func() api.Term {
				return op(pick[int64](m, api.OpAdd, api.OpSub, api.OpMul, api.OpDiv, api.OpRem), sub('n'), sub('n'))
			},
			func() api.Term { return op(api.OpNeg, sub('n')) },
			func() api.Term { return op(api.OpLen, sub('a')) },
			func() api.Term { return op(api.OpSize, sub('s')) },
			func() api.Term { return op(api.OpByte, sub('s'), sub('n')) },
			func() api.Term { return op(api.OpGetc, sub('u')) })()
	case 'b':
		return pick(m,
			func() api.Term { return op(pick[int64](m, api.OpEq, api.OpLt), sub('n'), sub('n')) },
			func() api.Term { return op(api.OpNot, sub('b')) })()
	case 's':
		return op(api.OpCat, sub('s'), sub('s'))
	case 'u':
		return pick(m,
			func() api.Term { return op(api.OpAssign, sub('p'), m.any(depth)) },
			func() api.Term { return op(api.OpSet, sub('a'), sub('n'), m.any(depth)) },
			func() api.Term { return op(api.OpPutc, sub('n')) })()
	case 'f':
		v := m.bind()
		return fun(v, m.within(hints[m.Intn(len(hints))], depth, v))
	case 'r':
		if m.Intn(2) == 0 {
			return named(api.TWith, pick(m, "a", "b", "c"), sub('r'), m.any(depth))
		}
		return m.record(m.Intn(4), depth)
	case 't':
		return named(api.TTag, pick(m, "A", "B", "C"), m.any(depth))
	case 'p':
		return op(api.OpRef, m.any(depth))
	case 'a':
		return op(api.OpArray, sub('n'), m.any(depth))
	}
	return m.leaf(hint)
}

// control returns a term that comes to what another one does.
func (m *maker) control(hint byte, depth int) api.Term {
	sub := func(hint byte) api.Term { return m.term(hint, depth) }
	switch m.Intn(13) {
	case 0, 1:
		return of(api.TApp, sub('f'), m.any(depth))
	case 2, 3, 4:
		v := m.bind()
		first := m.any(depth)
		if m.Intn(2) == 0 {
			first = m.made('f', depth)
		}
		return then(v, first, m.within(hint, depth, v))
	case 5:
		f, x := m.bind(), m.bind()
		body := fun(x, m.within(hints[m.Intn(len(hints))], depth, f, x))
		return binding(api.TRec, f, body, m.within(hint, depth, f))
	case 6:
		return of(api.TIf, sub('b'), sub(hint), sub(hint))
	case 7, 8:
		return m.match(hint, depth)
	case 9:
		v := m.bind()
		return binding(api.TTry, v, sub(hint), m.within(hint, depth, v))
	case 10:
		return named(api.TField, pick(m, "a", "b", "c"), sub('r'))
	case 11:
		return op(api.OpDeref, sub('p'))
	}
	if m.Intn(2) == 0 {
		return of(api.TRaise, sub('x'))
	}
	return op(api.OpGet, sub('a'), sub('n'))
}

func (m *maker) match(hint byte, depth int) api.Term {
	on := pick(m, []byte("nbsuxrrttt")...)
	x := of(api.TMatch, m.term(on, depth))
	for range 1 + m.Intn(3) {
		var vars []int
		p := m.pattern(on, 2, &vars)
		x.Cases = append(x.Cases, api.Case{P: p, Body: m.within(hint, depth, vars...)})
	}
	return x
}

// pattern returns a pattern for what a hint says, and adds its variables.
func (m *maker) pattern(hint byte, depth int, vars *[]int) api.TPat {
	if m.Intn(4) == 0 || depth == 0 {
		if m.Intn(3) == 0 {
			return api.TPat{Kind: api.PAny}
		}
		v := m.bind()
		*vars = append(*vars, v)
		return api.TPat{Kind: api.PVar, V: v}
	}
	sub := func() api.TPat { return m.pattern(hints[m.Intn(8)], depth-1, vars) }
	switch hint {
	case 'n':
		return api.TPat{Kind: api.PInt, N: m.Int63n(3)}
	case 'b':
		return api.TPat{Kind: api.PBool}
	case 's':
		return api.TPat{Kind: api.PString}
	case 'u':
		return api.TPat{Kind: api.PUnit}
	case 'x':
		return api.TPat{Kind: api.PExn, S: "Foo"}
	case 't':
		return api.TPat{Kind: api.PTag, S: pick(m, "A", "B", "C"), Args: []api.TPat{sub()}}
	case 'r':
		p := api.TPat{Kind: api.PRecord}
		for _, i := range m.Perm(3)[:m.Intn(3)] {
			p.Labels = append(p.Labels, "abc"[i:i+1])
			p.Args = append(p.Args, sub())
		}
		return p
	}
	return api.TPat{Kind: api.PAny}
}

// random returns a valid term, each part of which has a place of its own.
func (m *maker) random(depth int) api.Term {
	for {
		m.next = 0
		x := m.any(depth)
		if resolve.May(x) {
			at := 0
			place(&x, &at)
			return x
		}
	}
}

// A smaller maker makes terms of few kinds, in which much is bound and used, and which mostly have a type.
type smaller struct {
	*maker
	left int // how many more variables may be bound, but for those of let
}

func (m *smaller) within(depth int, vars ...int) api.Term {
	defer func(l []int) { m.vars = l }(m.vars)
	m.vars = slices.Concat(m.vars, vars)
	return m.term(depth)
}

func (m *smaller) record(depth int) api.Term {
	if m.Intn(2) == 0 {
		return api.Term{Kind: api.TRecord, Labels: []string{pick(m.maker, "A", "B")}, Args: []api.Term{m.term(depth - 1)}}
	}
	return api.Term{Kind: api.TRecord, Labels: []string{"B", "A"}, Args: []api.Term{m.term(depth - 1), m.term(depth - 1)}}
}

func (m *smaller) term(depth int) api.Term {
	if len(m.vars) > 0 && (m.Intn(5) < 2 || depth == 0 && m.Intn(3) > 0) {
		return use(pick(m.maker, m.vars...))
	}
	if depth == 0 {
		return pick(m.maker, number(1), unit())
	}
	sub := func() api.Term { return m.term(depth - 1) }
	name := pick(m.maker, "A", "B")
	switch m.Intn(13) {
	case 0:
		return of(api.TApp, sub(), sub())
	case 1, 2:
		v := m.bind()
		return then(v, sub(), m.within(depth-1, v))
	case 3:
		return alike(sub(), sub())
	case 4:
		return m.record(depth)
	case 5:
		return named(api.TWith, name, pick(m.maker, sub(), m.record(depth)), sub())
	case 6:
		return named(api.TField, name, pick(m.maker, sub(), m.record(depth)))
	case 7:
		return named(api.TTag, name, sub())
	case 8:
		return pick(m.maker, raised(), of(api.TRecord), number(1))
	}
	if m.left == 0 {
		return sub()
	}
	m.left--
	v := m.bind()
	switch m.Intn(4) {
	case 0:
		p := api.TPat{Kind: api.PTag, S: name, Args: []api.TPat{{Kind: api.PVar, V: v}}}
		q := pick(m.maker, p, api.TPat{Kind: api.PRecord, Labels: []string{name}, Args: p.Args})
		x := match(sub(), m.within(depth-1, v), q)
		if m.Intn(2) == 0 {
			p.S, p.Args = pick(m.maker, "A", "B"), []api.TPat{{Kind: pick(m.maker, api.PAny, api.PInt)}}
			x.Cases = append(x.Cases, api.Case{P: p, Body: sub()})
		}
		return x
	case 1:
		f := m.bind()
		return binding(api.TRec, f, fun(v, m.within(depth-1, f, v)), m.within(depth-1, f))
	}
	return fun(v, m.within(depth-1, v))
}

// scopes returns a term that is a function of some variables, in which some values are bound that use these.
func (m *smaller) scopes(depth int) api.Term {
	outer := 2 + m.Intn(2)
	for range outer {
		m.vars = append(m.vars, m.bind())
	}
	var lets []api.Term
	for range 1 + m.Intn(3) {
		value := pick(m.maker, m.record, m.function, m.term)(depth)
		lets = append(lets, then(m.bind(), value, unit()))
		m.vars = append(m.vars, m.next)
	}
	x := m.record(depth)
	for i := len(lets) - 1; i >= 0; i-- {
		lets[i].Args[1] = x
		x = lets[i]
	}
	for i := outer; i > 0; i-- {
		x = fun(i, x)
	}
	return x
}

func (m *smaller) function(depth int) api.Term {
	v := m.bind()
	return fun(v, m.within(depth-1, v))
}

// small returns a term of a smaller maker, with so many variables at the most but for those of let, each part of which has a
// place of its own.
func (m *maker) small(depth, most int) api.Term {
	m.next, m.vars = 0, nil
	s := smaller{m, most}
	x := pick(m, s.term, s.scopes)(depth)
	m.vars = nil
	at := 0
	place(&x, &at)
	return x
}

// place gives each part of a term the next place.
func place(x *api.Term, at *int) {
	*at++
	x.At = *at
	for i := range x.Args {
		place(&x.Args[i], at)
	}
	for i := range x.Cases {
		place(&x.Cases[i].Body, at)
	}
}
