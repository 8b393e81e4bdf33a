package anf_test

import (
	"fmt"
	"slices"

	"marquetry/api"
)

// Terms.
func of(kind int, l ...api.Term) api.Term { return api.Term{Kind: kind, Args: l} }

func binding(kind, v int, l ...api.Term) api.Term { return api.Term{Kind: kind, V: v, Args: l} }

func named(kind int, s string, l ...api.Term) api.Term { return api.Term{Kind: kind, S: s, Args: l} }

func calc(n int64, l ...api.Term) api.Term { return api.Term{Kind: api.TOp, N: n, Args: l} }

func use(v int) api.Term { return api.Term{Kind: api.TVar, V: v} }

func number(n int64) api.Term { return api.Term{Kind: api.TInt, N: n} }

func truth(n int64) api.Term { return api.Term{Kind: api.TBool, N: n} }

func unit() api.Term { return of(api.TUnit) }

func fun(v int, body api.Term) api.Term { return binding(api.TFun, v, body) }

func fields(labels []string, l ...api.Term) api.Term {
	return api.Term{Kind: api.TRecord, Labels: labels, Args: l}
}

func matching(x api.Term, l ...api.Case) api.Term {
	return api.Term{Kind: api.TMatch, Args: []api.Term{x}, Cases: l}
}

func arm(p api.TPat, body api.Term) api.Case { return api.Case{P: p, Body: body} }

// Patterns.
func anything() api.TPat { return api.TPat{Kind: api.PAny} }

func bindsTo(v int) api.TPat { return api.TPat{Kind: api.PVar, V: v} }

func equals(n int64) api.TPat { return api.TPat{Kind: api.PInt, N: n} }

func tags(s string, p api.TPat) api.TPat {
	return api.TPat{Kind: api.PTag, S: s, Args: []api.TPat{p}}
}

func has(labels []string, l ...api.TPat) api.TPat {
	return api.TPat{Kind: api.PRecord, Labels: labels, Args: l}
}

// parts returns how many parts a term has.
func parts(t api.Term) int {
	n := 1
	for _, a := range t.Args {
		n += parts(a)
	}
	for _, c := range t.Cases {
		n += patternParts(c.P) + parts(c.Body)
	}
	return n
}

func patternParts(p api.TPat) int {
	n := 1
	for _, a := range p.Args {
		n += patternParts(a)
	}
	return n
}

// A shape is a type: n, b, s, u and x stand for int, bool, string, unit and exn; f, p and a for functions, references and arrays
// of args; r and t for records and tags.
type shape struct {
	kind   byte
	args   []shape
	labels []string
}

func (s shape) is(other shape) bool {
	return s.kind == other.kind && slices.Equal(s.labels, other.labels) && slices.EqualFunc(s.args, other.args, shape.is)
}

func plain(kind byte) shape { return shape{kind: kind} }

func arrow(from, to shape) shape { return shape{kind: 'f', args: []shape{from, to}} }

// A local is a variable that is seen. A poly one is a function from any type to the same one.
type local struct {
	v    int
	of   shape
	poly bool
}

// A termMaker makes random terms, which have a type, unless wild ones are put in.
type termMaker struct {
	*maker
	next  int
	vars  []local
	wild  int   // how often, out of 1000, a term or pattern is not of the type that it should have
	deep  bool  // whether some matches go deep into what is matched
	crowd []int // variables that are numbers, of which functions use many
}

func (m *termMaker) bind() int {
	m.next += 1 + m.Intn(2)
	return m.next
}

func (m *termMaker) shape(depth int) shape {
	if depth == 0 || m.Intn(5) < 2 {
		return plain(pick(m.maker, []byte("nnnbbsux")...))
	}
	sub := func() shape { return m.shape(depth - 1) }
	switch k := pick(m.maker, []byte("ffrrttpa")...); k {
	case 'f':
		return arrow(sub(), sub())
	case 'p', 'a':
		return shape{kind: k, args: []shape{sub()}}
	default:
		s := shape{kind: k}
		names := []string{"a", "b", "c"}
		if k == 't' {
			names = []string{"A", "B", "C"}
		}
		for _, l := range names {
			if m.Intn(2) == 0 || k == 't' && l == "C" && len(s.labels) == 0 {
				s.labels, s.args = append(s.labels, l), append(s.args, sub())
			}
		}
		return s
	}
}

// within returns a term in which some more variables are seen.
func (m *termMaker) within(s shape, depth int, l ...local) api.Term {
	defer func(vars []local) { m.vars = vars }(m.vars)
	m.vars = slices.Concat(m.vars, l)
	return m.term(s, depth)
}

func (m *termMaker) term(s shape, depth int) api.Term {
	if m.Intn(1000) < m.wild {
		s = m.shape(2)
	}
	if m.Intn(3) == 0 || depth <= 0 && m.Intn(3) > 0 {
		for _, i := range m.Perm(len(m.vars)) {
			if x := m.vars[i]; x.of.is(s) && !x.poly || x.poly && s.kind == 'f' && s.args[0].is(s.args[1]) {
				return use(x.v)
			}
		}
	}
	if depth <= 0 || m.Intn(12) == 0 {
		return m.leaf(s)
	}
	if m.Intn(5) < 2 {
		return m.made(s, depth-1)
	}
	return m.control(s, depth-1)
}

// leaf returns a small term.
func (m *termMaker) leaf(s shape) api.Term {
	switch s.kind {
	case 'n':
		return number(m.number())
	case 'b':
		return truth(m.Int63n(2))
	case 's':
		return named(api.TString, pick(m.maker, "", "a", "ab", "\x00\"\xff"))
	case 'u':
		return unit()
	case 'x':
		return named(api.TExn, m.exception())
	case 'f':
		return m.function(s, 0)
	case 'r':
		return m.fields(s, 0)
	case 't':
		i := m.Intn(len(s.labels))
		return named(api.TTag, s.labels[i], m.leaf(s.args[i]))
	case 'p':
		return calc(api.OpRef, m.leaf(s.args[0]))
	}
	return calc(api.OpArray, number(m.Int63n(3)), m.leaf(s.args[0]))
}

func (m *termMaker) exception() string {
	return pick(m.maker, "Foo", "Bar", "Match", "Divide", "Bounds", "Size")
}

func (m *termMaker) function(s shape, depth int) api.Term {
	v := m.bind()
	return fun(v, m.busy(m.within(s.args[1], depth, local{v: v, of: s.args[0]})))
}

// busy returns a term that, if there is a crowd, uses many of it first.
func (m *termMaker) busy(x api.Term) api.Term {
	if len(m.crowd) == 0 || m.Intn(3) == 0 {
		return x
	}
	sum := number(0)
	for _, i := range m.Perm(len(m.crowd))[:m.Intn(len(m.crowd))] {
		sum = calc(api.OpAdd, sum, use(m.crowd[i]))
	}
	return binding(api.TLet, m.bind(), pick(m.maker, sum, calc(api.OpPutc, sum)), x)
}

func (m *termMaker) fields(s shape, depth int) api.Term {
	x := of(api.TRecord)
	for _, i := range m.Perm(len(s.labels)) {
		x.Labels, x.Args = append(x.Labels, s.labels[i]), append(x.Args, m.term(s.args[i], depth))
	}
	return x
}

// made returns a term whose own kind makes a value of a type.
func (m *termMaker) made(s shape, depth int) api.Term {
	sub := func(kind byte) api.Term { return m.term(plain(kind), depth) }
	list := func(kind byte) api.Term { return m.term(shape{kind: kind, args: []shape{m.shape(1)}}, depth) }
	switch s.kind {
	case 'n':
		return pick(m.maker,
			func() api.Term {
				return calc(pick[int64](m.maker, api.OpAdd, api.OpSub, api.OpMul, api.OpDiv, api.OpRem), sub('n'), sub('n'))
			},
			func() api.Term { return calc(api.OpAdd, sub('n'), sub('n')) },
			func() api.Term { return calc(api.OpNeg, sub('n')) },
			func() api.Term { return calc(api.OpLen, list('a')) },
			func() api.Term { return calc(api.OpSize, sub('s')) },
			func() api.Term { return calc(api.OpByte, sub('s'), sub('n')) },
			func() api.Term { return calc(api.OpGetc, sub('u')) })()
	case 'b':
		return pick(m.maker,
			func() api.Term { return calc(pick[int64](m.maker, api.OpEq, api.OpLt), sub('n'), sub('n')) },
			func() api.Term { return calc(api.OpNot, sub('b')) })()
	case 's':
		return calc(api.OpCat, sub('s'), sub('s'))
	case 'u':
		if m.Intn(3) > 0 {
			return calc(api.OpPutc, sub('n'))
		}
		x := m.shape(1)
		if m.Intn(2) == 0 {
			return calc(api.OpAssign, m.term(shape{kind: 'p', args: []shape{x}}, depth), m.term(x, depth))
		}
		return calc(api.OpSet, m.term(shape{kind: 'a', args: []shape{x}}, depth), sub('n'), m.term(x, depth))
	case 'f':
		return m.function(s, depth)
	case 'r':
		if len(s.labels) > 0 && m.Intn(2) == 0 {
			i := m.Intn(len(s.labels))
			r := shape{kind: 'r', labels: s.labels, args: slices.Clone(s.args)}
			r.args[i] = m.shape(1)
			if m.Intn(3) == 0 {
				r.labels, r.args = slices.Delete(slices.Clone(s.labels), i, i+1), slices.Delete(r.args, i, i+1)
			}
			return named(api.TWith, s.labels[i], m.term(r, depth), m.term(s.args[i], depth))
		}
		return m.fields(s, depth)
	case 't':
		i := m.Intn(len(s.labels))
		return named(api.TTag, s.labels[i], m.term(s.args[i], depth))
	case 'p':
		return calc(api.OpRef, m.term(s.args[0], depth))
	case 'a':
		return calc(api.OpArray, pick(m.maker, number(2), sub('n')), m.term(s.args[0], depth))
	}
	return m.leaf(s)
}

// control returns a term that comes to what another one does.
func (m *termMaker) control(s shape, depth int) api.Term {
	sub := func(s shape) api.Term { return m.term(s, depth) }
	other := m.shape(2)
	switch m.Intn(15) {
	case 0, 1:
		return of(api.TApp, sub(arrow(other, s)), sub(other))
	case 2, 3:
		v := m.bind()
		return binding(api.TLet, v, sub(other), m.within(s, depth, local{v: v, of: other}))
	case 4:
		v, x := m.bind(), m.bind()
		return binding(api.TLet, v, fun(x, use(x)), m.within(s, depth, local{v: v, poly: true}))
	case 5, 6:
		return m.loop(s, depth)
	case 7, 8:
		return of(api.TIf, sub(plain('b')), sub(s), sub(s))
	case 9, 10:
		return m.match(s, other, depth)
	case 11:
		v := m.bind()
		return binding(api.TTry, v, m.busy(sub(s)), m.busy(m.within(s, depth, local{v: v, of: plain('x')})))
	case 12:
		v := m.bind()
		handler := m.cases(s, plain('x'), depth)
		handler.Args = []api.Term{use(v)}
		handler.Cases = append(handler.Cases, arm(anything(), of(api.TRaise, use(v))))
		return binding(api.TTry, v, sub(s), handler)
	case 13:
		r := shape{kind: 'r', labels: []string{"a", "b"}, args: []shape{s, other}}
		if m.Intn(2) == 0 {
			return named(api.TField, "a", sub(r))
		}
		return pick(m.maker, calc(api.OpDeref, sub(shape{kind: 'p', args: []shape{s}})), calc(api.OpGet, sub(shape{kind: 'a', args: []shape{s}}), pick(m.maker, number(0), number(1), sub(plain('n')))))
	}
	if m.Intn(3) == 0 {
		return of(api.TRaise, sub(plain('x')))
	}
	return m.made(s, depth)
}

// loop returns a TRec whose function calls itself with one less.
func (m *termMaker) loop(s shape, depth int) api.Term {
	f, x := m.bind(), m.bind()
	here, self := local{v: x, of: plain('n')}, local{v: f, of: arrow(plain('n'), s)}
	again := of(api.TApp, use(f), calc(api.OpSub, use(x), number(1)))
	if m.Intn(2) == 0 {
		v := m.bind()
		again = binding(api.TLet, v, again, m.within(s, depth, here, local{v: v, of: s}))
	}
	until := of(api.TIf, calc(api.OpLt, use(x), number(1)), m.within(s, depth, here), again)
	v := m.bind()
	first := of(api.TApp, use(f), number(m.Int63n(4)))
	return binding(api.TRec, f, fun(x, m.busy(until)), binding(api.TLet, v, first, m.within(s, depth, self, local{v: v, of: s})))
}

// match returns a match of a value of a type.
func (m *termMaker) match(s, on shape, depth int) api.Term {
	x := m.cases(s, on, depth)
	x.Args = []api.Term{m.term(on, depth)}
	if m.deep && m.Intn(2) == 0 {
		m.deepen(&x, 1+m.Intn(30))
	}
	return x
}

// cases returns a match without an Arg.
func (m *termMaker) cases(s, on shape, depth int) api.Term {
	x := of(api.TMatch)
	for range 1 + m.Intn(4) {
		var l []local
		p := m.pattern(on, 3, &l)
		x.Cases = append(x.Cases, arm(p, m.within(s, depth, l...)))
	}
	return x
}

// pattern returns a pattern of a type, and adds its variables.
func (m *termMaker) pattern(s shape, depth int, l *[]local) api.TPat {
	if m.Intn(1000) < m.wild {
		s = m.shape(2)
	}
	if m.Intn(4) == 0 || depth == 0 {
		if m.Intn(3) == 0 {
			return anything()
		}
		v := m.bind()
		*l = append(*l, local{v: v, of: s})
		return bindsTo(v)
	}
	switch s.kind {
	case 'n':
		return equals(pick[int64](m.maker, 0, 1, 1, 2, -1))
	case 'b':
		return api.TPat{Kind: api.PBool, N: m.Int63n(2)}
	case 's':
		return api.TPat{Kind: api.PString, S: pick(m.maker, "", "a", "ab")}
	case 'u':
		return api.TPat{Kind: api.PUnit}
	case 'x':
		return api.TPat{Kind: api.PExn, S: m.exception()}
	case 't':
		i := m.Intn(len(s.labels))
		return tags(s.labels[i], m.pattern(s.args[i], depth-1, l))
	case 'r':
		p := has(nil)
		for _, i := range m.Perm(len(s.labels))[:m.Intn(len(s.labels)+1)] {
			p.Labels, p.Args = append(p.Labels, s.labels[i]), append(p.Args, m.pattern(s.args[i], depth-1, l))
		}
		return p
	}
	return anything()
}

// deepen puts what is matched, and the patterns, so much deeper.
func (m *termMaker) deepen(x *api.Term, depth int) {
	for range depth {
		if m.Intn(3) == 0 {
			x.Args[0] = named(api.TTag, "D", x.Args[0])
			for i := range x.Cases {
				x.Cases[i].P = tags("D", x.Cases[i].P)
			}
			continue
		}
		x.Args[0] = fields([]string{"z", "d"}, number(1), x.Args[0])
		for i := range x.Cases {
			switch m.Intn(20) {
			case 0:
				x.Cases[i].P = has([]string{"z", "d"}, equals(1), x.Cases[i].P)
			case 1:
				x.Cases[i].P = has([]string{"d", "z"}, x.Cases[i].P, equals(1))
			default:
				x.Cases[i].P = has([]string{"d"}, x.Cases[i].P)
			}
		}
	}
}

// random returns a random term.
func (m *termMaker) random(depth int) api.Term {
	m.next, m.vars = -1, nil
	return m.term(m.shape(2), depth)
}

// crowded returns a random term in which there are many variables, of which functions use many.
func (m *termMaker) crowded(crowd, depth int) api.Term {
	m.next, m.vars, m.crowd = -1, nil, nil
	for range crowd {
		m.crowd = append(m.crowd, m.bind())
	}
	x := m.busy(m.term(m.shape(2), depth))
	for i, v := range m.crowd {
		x = binding(api.TLet, v, calc(api.OpAdd, calc(api.OpGetc, unit()), number(int64(i))), x)
	}
	m.crowd = nil
	return x
}

// label returns the label of a wide record.
func label(i int) string { return fmt.Sprintf("l%d", i) }
