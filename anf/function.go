package anf

import (
	"slices"

	"marquetry/api"
)

// A function captures the variables that it uses one by one, so that its closure keeps nothing else. But functions that are deep
// within one another capture all that the innermost one uses, which in a large term may be more in all than a program has room for.
// In a term of more than mostFlat parts, fewer than packSize variables are captured one by one, and all others in records of
// packSize, which are handed on whole to the functions within.
const (
	mostFlat = 400
	packSize = 16
)

// none is a variable that no term has.
const none = -1

// A function is one that is being composed.
type function struct {
	*composer
	vars  map[int]api.Atom // what the variables of the term are here
	slots map[int]slot     // where those are that are in records here
	last  int              // the variable that was bound last
	joins int              // how many there are
}

// A slot is a place in a record.
type slot struct {
	record api.Atom
	label  int64
}

// A lambda is what becomes a function: a body, and the variables of the term that are the function itself and what it is handed.
type lambda struct {
	body         *api.Term
	self, handed int
}

// closure composes a function, the step that makes its closure, and what remains.
func (f *function) closure(l lambda, with func(api.Atom) api.Anf) api.Anf {
	free := f.known(used(l.body))
	return f.pack(free, func() api.Anf {
		inner, captured := f.inner(l, free)
		n := inner.compose(l.body, len(captured))
		return f.let(step(api.StepClosure, n, captured...), with)
	})
}

// known returns those of some variables of the term that are seen in a function.
func (f *function) known(vars []int) []int {
	var l []int
	for _, v := range vars {
		if _, ok := f.vars[v]; ok || f.isPacked(v) {
			l = append(l, v)
		}
	}
	return l
}

func (f *function) isPacked(v int) bool {
	_, ok := f.slots[v]
	return ok
}

// pack composes records of variables that a function is to capture, as long as too many are in none, and what remains.
func (f *function) pack(free []int, with func() api.Anf) api.Anf {
	singles := f.singles(free)
	if f.parts <= mostFlat || len(singles) < packSize {
		return with()
	}
	singles = singles[:packSize]
	s := api.Step{Kind: api.StepRecord}
	for i, v := range singles {
		s.Ns, s.A = append(s.Ns, int64(i)), append(s.A, f.vars[v])
	}
	return f.let(s, func(a api.Atom) api.Anf {
		for i, v := range singles {
			f.slots[v] = slot{a, int64(i)}
		}
		b := f.pack(free, with)
		for _, v := range singles {
			delete(f.slots, v) // Elsewhere in the function there is no such record.
		}
		return b
	})
}

// singles returns those of some variables that must be captured, and are in no record.
func (f *function) singles(free []int) []int {
	var l []int
	for _, v := range free {
		if f.vars[v].Kind == api.AtomVar && !f.isPacked(v) {
			l = append(l, v)
		}
	}
	return l
}

// inner returns the function that captures variables of f, and what it captures: variables 2, 3 and so on have that at first.
func (f *function) inner(l lambda, free []int) (*function, []api.Atom) {
	g := newFunction(f.composer)
	g.vars[l.self], g.vars[l.handed] = variable(0), variable(1)
	var captured []api.Atom
	capture := func(a api.Atom) api.Atom {
		i := slices.Index(captured, a)
		if i < 0 {
			i = len(captured)
			captured = append(captured, a)
		}
		return variable(2 + i)
	}
	for _, v := range free {
		a, s := f.vars[v], f.slots[v]
		switch {
		case f.isPacked(v):
			g.slots[v] = slot{capture(s.record), s.label}
		case a.Kind == api.AtomVar:
			g.vars[v] = capture(a)
		default:
			g.vars[v] = a
		}
	}
	return g, captured
}

// newFunction returns a function in which nothing is bound.
func newFunction(c *composer) *function {
	return &function{composer: c, vars: map[int]api.Atom{}, slots: map[int]slot{}, last: 1}
}

// compose composes a function that captures so many values, and returns its number. That precedes those of the functions within.
func (f *function) compose(body *api.Term, caps int) int64 {
	n := len(f.funcs)
	f.funcs = append(f.funcs, api.Func{Caps: caps})
	f.last += caps
	b := f.term(body, rest{with: func(a api.Atom) api.Anf { return leave(api.AnfRet, a) }, end: true, short: true})
	for i := caps - 1; i >= 0; i-- {
		b = api.Anf{Kind: api.AnfLet, X: 2 + i, R: step(api.StepCapture, int64(i)), Kids: []api.Anf{b}}
	}
	f.funcs[n].Body = b
	return int64(n)
}

// use composes the use of a variable of the term, and what remains.
func (f *function) use(v int, k rest) api.Anf {
	if a, ok := f.vars[v]; ok {
		return k.with(a)
	}
	s := f.slots[v]
	return f.let(step(api.StepField, s.label, s.record), k.with)
}
