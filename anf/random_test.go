package anf_test

import (
	"fmt"
	"math"
	"math/rand"
	"slices"
	"strings"
	"testing"

	"marquetry/anf"
	"marquetry/api"
)

// A maker makes random programs, and terms by a termMaker.
type maker struct{ *rand.Rand }

func newMaker(seed int64) *maker { return &maker{rand.New(rand.NewSource(seed))} }

func pick[T any](m *maker, l ...T) T { return l[m.Intn(len(l))] }

func (m *maker) number() int64 {
	return pick[int64](m, 0, 0, 1, 1, 2, 3, -1, 65, 255, 256, 300, 1<<62-1, -1<<62, m.Int63n(1<<40))
}

// A bodyMaker makes the body of a function. All functions take and return numbers, if nothing goes wrong. Records have numbers
// at a and b, what is tagged is a number, and so is what is in references and arrays.
type bodyMaker struct {
	*maker
	caps  [][]byte // for each function the kinds of the values that it captures
	self  int
	next  int
	joins int
	lacks bool // whether there was no value of a kind that was asked for
}

// A variable is seen; its value mostly has a kind.
type variable struct {
	x    int64
	kind byte
}

// A target is a join to which one may jump.
type target struct {
	n     int
	kinds []byte
}

const kinds = "nnnsfrtpa"

func (m *bodyMaker) bind() int {
	m.next += 1 + m.Intn(2)
	return m.next
}

func (m *bodyMaker) atom(kind byte, seen []variable) api.Atom {
	if m.Intn(300) == 0 {
		return pick(m.maker, num(m.number()), txt(m.Int63n(4)), v(pick(m.maker, seen...).x))
	}
	if m.Intn(4) > 0 || kind != 'n' && kind != 's' {
		for _, i := range m.Perm(len(seen)) {
			if seen[i].kind == kind {
				return v(seen[i].x)
			}
		}
	}
	if kind == 's' {
		return txt(m.Int63n(4))
	}
	m.lacks = m.lacks || kind != 'n'
	return num(m.number())
}

func (m *bodyMaker) atoms(kinds []byte, seen []variable) []api.Atom {
	var l []api.Atom
	for _, k := range kinds {
		l = append(l, m.atom(k, seen))
	}
	return l
}

// step returns a step that mostly is possible, and the kind of its result.
func (m *bodyMaker) step(seen []variable) (api.Step, byte) {
	for {
		m.lacks = false
		if r, kind := m.anyStep(seen); !m.lacks || m.Intn(100) == 0 {
			return r, kind
		}
	}
}

func (m *bodyMaker) anyStep(seen []variable) (api.Step, byte) {
	at := func(kind byte) api.Atom { return m.atom(kind, seen) }
	small := func() api.Atom { return pick(m.maker, num(0), num(1), num(2), at('n')) }
	for {
		switch m.Intn(22) {
		case 0, 1:
			return op(pick[int64](m.maker, api.OpAdd, api.OpSub, api.OpMul, api.OpDiv, api.OpRem, api.OpEq, api.OpLt), at('n'), at('n')), 'n'
		case 2:
			return op(pick[int64](m.maker, api.OpNeg, api.OpNot, api.OpGetc), at('n')), 'n'
		case 3, 4:
			return op(api.OpPutc, at('n')), 'n'
		case 5:
			return pick(m.maker, op(api.OpByte, at('s'), small()), op(api.OpSize, at('s')), step(api.StepSame, 0, at('s'), at('s'))), 'n'
		case 6:
			return op(api.OpCat, at('s'), at('s')), 's'
		case 7:
			return op(api.OpRef, at('n')), 'p'
		case 8:
			return pick(m.maker, op(api.OpDeref, at('p')), op(api.OpAssign, at('p'), at('n'))), 'n'
		case 9:
			return op(api.OpArray, pick(m.maker, num(2), num(3), at('n')), at('n')), 'a'
		case 10:
			return pick(m.maker, op(api.OpGet, at('a'), small()), op(api.OpSet, at('a'), small(), at('n')), op(api.OpLen, at('a'))), 'n'
		case 11:
			return record([]int64{0, 1}, at('n'), at('n')), 'r'
		case 12:
			return step(api.StepWith, m.Int63n(3), at('r'), at('n')), 'r'
		case 13:
			return step(api.StepField, m.Int63n(2), at('r')), 'n'
		case 14:
			return step(api.StepTag, m.Int63n(2), at('n')), 't'
		case 15:
			return step(pick(m.maker, api.StepTagOf, api.StepUntag), 0, at('t')), 'n'
		case 16:
			return step(api.StepCall, 0, at('f'), at('n')), 'n'
		case 17:
			return step(api.StepTry, 0, at('f'), at('f')), 'n'
		case 18:
			if m.Intn(10) == 0 {
				return step(api.StepKnown, int64(m.self), v(0), at('n')), 'n'
			}
			if m.Intn(10) > 0 {
				break
			}
			return step(api.StepKnown, m.Int63n(int64(len(m.caps))), at('f'), at('n')), 'n'
		case 19, 20:
			n := m.Intn(len(m.caps))
			if n <= m.self && m.Intn(20) > 0 {
				break // Few functions go round and round.
			}
			return step(api.StepClosure, int64(n), m.atoms(m.caps[n], seen)...), 'f'
		case 21:
			if l := m.caps[m.self]; len(l) > 0 {
				n := m.Intn(len(l))
				return step(api.StepCapture, int64(n)), l[n]
			}
		}
	}
}

func (m *bodyMaker) anf(depth int, seen []variable, joins []target) api.Anf {
	with := func(x int, kind byte) []variable { return append(seen[:len(seen):len(seen)], variable{int64(x), kind}) }
	at := func(kind byte) api.Atom { return m.atom(kind, seen) }
	if depth == 0 {
		switch n := m.Intn(12); {
		case n < 5 && len(joins) > 0:
			j := pick(m.maker, joins...)
			return jump(j.n, m.atoms(j.kinds, seen)...)
		case n == 10 && m.Intn(10) == 0:
			return tail(v(0), at('n'))
		case n == 10:
			m.lacks = false
			if a := tail(at('f'), at('n')); !m.lacks {
				return a
			}
		case n == 11:
			return raise(pick(m.maker, num(0), num(2), num(m.Int63n(7)-1), at('n')))
		}
		return ret(at('n'))
	}
	sub := func() api.Anf { return m.anf(depth-1-m.Intn(min(2, depth)), seen, joins) }
	switch m.Intn(12) {
	case 0:
		return when(at('n'), sub(), sub())
	case 1:
		return choose(at('n'), []int64{-1, 0}, sub(), sub(), sub())
	case 2, 3:
		m.joins += 1 + m.Intn(2)
		j := target{n: m.joins}
		inner := seen[:len(seen):len(seen)]
		var xs []int
		for range m.Intn(3) {
			k := kinds[m.Intn(len(kinds))]
			j.kinds = append(j.kinds, k)
			xs = append(xs, m.bind())
			inner = append(inner, variable{int64(m.next), k})
		}
		return join(j.n, xs, m.anf(depth-1, inner, joins), m.anf(depth-1, seen, append(joins[:len(joins):len(joins)], j)))
	}
	r, kind := m.step(seen)
	x := m.bind()
	return let(x, r, m.anf(depth-1, with(x, kind), joins))
}

// program returns a random program, which is valid.
func (m *maker) program() api.Prog {
	p := program()
	b := bodyMaker{maker: m, caps: [][]byte{nil}}
	for range m.Intn(4) {
		var l []byte
		for range m.Intn(3) {
			l = append(l, kinds[m.Intn(len(kinds))])
		}
		b.caps = append(b.caps, l)
	}
	for i, l := range b.caps {
		b.self, b.next, b.joins = i, 1, 0
		body := b.anf(1+m.Intn(8), []variable{{0, '-'}, {1, 'n'}}, nil)
		p.Funcs = append(p.Funcs, api.Func{Caps: len(l), Body: body})
	}
	return p
}

// TestP13_1_Random: random programs come to what the model says, with any fuel.
func TestP13_1_Random(t *testing.T) {
	t.Parallel()
	m := newMaker(1)
	tally, results := map[int]int{}, map[string]int{}
	for range 10000 {
		p := m.program()
		if !judged(t, p) {
			t.Fatalf("%+v", p)
		}
		kind := m.Intn(api.TyTags + 1)
		want := modelled(p, kind, "A\xffz", 200)
		if got := anf.Run(p, kind, "A\xffz", 200); got != want {
			t.Fatalf("%+v: %q, not %q", p, fmt.Sprint(got), fmt.Sprint(want))
		}
		tally[want.Kind]++
		results[want.Result]++
		for range 3 {
			fuel := m.Int63n(60)
			want := modelled(p, kind, "A\xffz", fuel)
			if got := anf.Run(p, kind, "A\xffz", fuel); got != want {
				t.Fatalf("%+v with %d fuel: %q, not %q", p, fuel, fmt.Sprint(got), fmt.Sprint(want))
			}
		}
	}
	if tally[api.Done] < 7000 || tally[api.Stuck] < 400 || tally[api.Fuel] < 200 || len(results) < 100 {
		t.Errorf("%v, %d results", tally, len(results))
	}
}

// spoil changes something in a program.
func (m *maker) spoil(p *api.Prog) {
	f := &p.Funcs[m.Intn(len(p.Funcs))]
	a := &f.Body
	for len(a.Kids) > 0 && m.Intn(5) > 0 {
		a = &a.Kids[m.Intn(len(a.Kids))]
	}
	n := pick[int64](m, -1, 0, 1, 2, 3, 4, 5, 1<<20, 1<<20+1, 1<<62, math.MinInt64)
	l := &a.A
	if m.Intn(2) == 0 {
		l = &a.R.A
	}
	switch m.Intn(16) {
	case 0:
		a.Kind = m.Intn(10)
	case 1:
		a.X = int(n)
	case 2:
		a.N = int(n)
	case 3:
		a.Xs = append(a.Xs, int(n))
	case 4:
		a.Xs = a.Xs[:len(a.Xs)/2]
	case 5:
		a.Ns = append(a.Ns, n)
	case 6:
		if len(a.Ns) > 0 {
			a.Ns[m.Intn(len(a.Ns))] = n
		}
	case 7:
		a.R.Kind = m.Intn(16)
	case 8:
		a.R.N = n
	case 9:
		a.R.Ns = append(a.R.Ns, n)
	case 10:
		*l = append(*l, v(n))
	case 11:
		*l = (*l)[:len(*l)/2]
	case 12, 13:
		if len(*l) > 0 {
			(*l)[m.Intn(len(*l))] = pick(m, v(m.Int63n(9)), v(m.Int63n(9)), txt(n), num(n), api.Atom{Kind: int(n)})
		}
	case 14:
		f.Caps = int(n)
	case 15:
		if len(a.Kids) > 0 {
			a.Kids = append(a.Kids, a.Kids[m.Intn(len(a.Kids))])
			if m.Intn(2) == 0 {
				a.Kids = a.Kids[m.Intn(3):]
			}
		}
	}
}

// TestP13_1_Spoiled: programs in which something has been changed are valid, or not, as the model says.
func TestP13_1_Spoiled(t *testing.T) {
	t.Parallel()
	m := newMaker(2)
	tally := map[bool]int{}
	for range 20000 {
		p := m.program()
		for range 1 + m.Intn(2) {
			m.spoil(&p)
		}
		ok := judged(t, p)
		tally[ok]++
		if want := modelled(p, api.TyInt, "", 50); ok && anf.Run(p, api.TyInt, "", 50) != want {
			t.Fatalf("%+v: not %q", p, fmt.Sprint(want))
		}
	}
	if tally[true] < 4000 || tally[false] < 10000 {
		t.Errorf("%v", tally)
	}
}

// TestP1_Loops: what contains itself has too many parts.
func TestP1_Loops(t *testing.T) {
	let := let(2, move(), one)
	let.Kids[0] = let
	kids := []api.Anf{one, one}
	kids[1] = api.Anf{Kind: api.AnfIf, A: []api.Atom{num(1)}, Kids: kids}
	kids[0] = kids[1]
	joins := []api.Anf{one, one}
	joins[1] = api.Anf{Kind: api.AnfJoin, Kids: joins}
	body := []api.Anf{one, one}
	body[0] = api.Anf{Kind: api.AnfJoin, Kids: body}
	for i, a := range []api.Anf{let, kids[0], joins[1], body[0]} {
		p := program(one, a)
		if anf.May(p) {
			t.Errorf("%d: valid", i)
		}
		if got := anf.Run(p, 0, "", plenty); got != stuck("") {
			t.Errorf("%d: %v", i, got)
		}
	}
	// The same Anf may be in several places, if nothing is bound there.
	p := program(when(num(0), one, one), one)
	p.Funcs[0].Body.Kids[1] = p.Funcs[0].Body.Kids[0]
	p.Funcs[1].Body = p.Funcs[0].Body
	is(t, true, "in several places", p)
	if got := anf.Run(p, 0, "", 9); got != done("", "1") {
		t.Error(got)
	}
}

// TestP1_Lists: long lists in the wrong places, and large names.
func TestP1_Lists(t *testing.T) {
	const n = 1 << 20
	p := program(one)
	p.Funcs[0].Body.A = slices.Repeat([]api.Atom{num(1)}, n)
	is(t, false, "Atoms", p)
	p = program(join(1, make([]int, n), one, one))
	is(t, false, "parameters", p)
	p = program(choose(num(1), make([]int64, n), one))
	is(t, false, "numbers", p)
	p = program(one)
	p.Funcs = make([]api.Func, n)
	is(t, false, "functions", p)
	p = program(one)
	p.Exns[2] = strings.Repeat("E", n)
	is(t, true, "a long name", p)
	p.Funcs[0].Body = raise(num(2))
	if got := anf.Run(p, 0, "", 9); got != done("", "raise "+strings.Repeat("E", n)) {
		t.Errorf("%.100v", got)
	}
}
