package anf

import (
	"cmp"
	"slices"

	"marquetry/api"
)

// A rest is what remains to be composed when a term has a value.
type rest struct {
	with  func(api.Atom) api.Anf // composes it, for that value
	end   bool                   // the function only returns the value: a call may take its place
	short bool                   // it may be composed any number of times
}

// then returns a rest that is composed once.
func then(with func(api.Atom) api.Anf) rest {
	return rest{with: with}
}

// A composer composes the functions of a program.
type composer struct {
	survey
	funcs []api.Func
}

// compose returns the program of a valid term.
func compose(t *api.Term) api.Prog {
	c := &composer{survey: surveyOf(t)}
	newFunction(c).compose(t, 0)
	return api.Prog{Funcs: c.funcs, Labels: c.labels, Tags: c.tags, Exns: c.exns, Texts: c.texts}
}

// raise returns what raises an exception.
func (c *composer) raise(name string) api.Anf {
	return leave(api.AnfRaise, numeral(c.exns.number(name)))
}

func (c *composer) text(s string) api.Atom {
	return api.Atom{Kind: api.AtomText, N: c.texts.number(s)}
}

// fresh returns a new variable.
func (f *function) fresh() int {
	f.last++
	return f.last
}

// let composes a step, and what remains with its result.
func (f *function) let(s api.Step, with func(api.Atom) api.Anf) api.Anf {
	x := f.fresh()
	return api.Anf{Kind: api.AnfLet, X: x, R: s, Kids: []api.Anf{with(variable(x))}}
}

// newJoin returns the number of a new join.
func (f *function) newJoin() int {
	f.joins++
	return f.joins
}

// fork composes ways that all go on with the same rest. Unless that is short, they jump to a join that has it as its body.
func (f *function) fork(k rest, ways func(rest) api.Anf) api.Anf {
	if k.short {
		return ways(k)
	}
	n := f.newJoin()
	from := ways(rest{with: func(a api.Atom) api.Anf { return jump(n, a) }, short: true})
	x := f.fresh()
	return join(n, []int{x}, from, k.with(variable(x)))
}

// term composes a term and what remains.
func (f *function) term(t *api.Term, k rest) api.Anf {
	switch t.Kind {
	case api.TVar:
		return f.use(t.V, k)
	case api.TInt, api.TBool, api.TUnit:
		return k.with(numeral(t.N)) // That of the unit is 0, which stands for it.
	case api.TString:
		return k.with(f.text(t.S))
	case api.TExn:
		return k.with(numeral(f.exns.number(t.S)))
	case api.TFun:
		return f.closure(lambda{&t.Args[0], none, t.V}, k.with)
	case api.TLet:
		return f.term(&t.Args[0], then(f.binding(t, k)))
	case api.TRec:
		fun := &t.Args[0]
		return f.closure(lambda{&fun.Args[0], t.V, fun.V}, f.binding(t, k))
	case api.TIf:
		return f.term(&t.Args[0], then(func(a api.Atom) api.Anf { return f.choose(a, t, k) }))
	case api.TMatch:
		return f.term(&t.Args[0], then(func(a api.Atom) api.Anf { return f.match(f.decisions[t], a, k) }))
	case api.TTry:
		return f.try(t, k)
	}
	return f.all(t.Args, nil, func(l []api.Atom) api.Anf { return f.plain(t, l, k) })
}

// binding returns what binds the variable of a term to a value, and composes its second Arg.
func (f *function) binding(t *api.Term, k rest) func(api.Atom) api.Anf {
	return func(a api.Atom) api.Anf {
		f.vars[t.V] = a
		return f.term(&t.Args[1], k)
	}
}

// choose composes the branches of a TIf.
func (f *function) choose(a api.Atom, t *api.Term, k rest) api.Anf {
	return f.fork(k, func(k rest) api.Anf {
		kids := []api.Anf{f.term(&t.Args[1], k), f.term(&t.Args[2], k)}
		return api.Anf{Kind: api.AnfIf, A: []api.Atom{a}, Kids: kids}
	})
}

// try composes a TTry: each of its Args is a function of its own.
func (f *function) try(t *api.Term, k rest) api.Anf {
	return f.closure(lambda{&t.Args[0], none, none}, func(first api.Atom) api.Anf {
		return f.closure(lambda{&t.Args[1], none, t.V}, func(second api.Atom) api.Anf {
			return f.let(step(api.StepTry, 0, first, second), k.with)
		})
	})
}

// all composes terms one after the other, and what remains with their values, which come behind those in l.
func (f *function) all(ts []api.Term, l []api.Atom, with func([]api.Atom) api.Anf) api.Anf {
	if len(ts) == 0 {
		return with(l)
	}
	return f.term(&ts[0], then(func(a api.Atom) api.Anf { return f.all(ts[1:], append(l, a), with) }))
}

// plain composes what is made of the values of a term's Args, and what remains.
func (f *function) plain(t *api.Term, l []api.Atom, k rest) api.Anf {
	switch t.Kind {
	case api.TApp:
		if k.end {
			return leave(api.AnfTail, l...)
		}
		return f.let(step(api.StepCall, 0, l...), k.with)
	case api.TRaise:
		return leave(api.AnfRaise, l...)
	case api.TRecord:
		return f.let(f.record(t.Labels, l), k.with)
	case api.TWith:
		return f.let(step(api.StepWith, f.labels.number(t.S), l...), k.with)
	case api.TField:
		return f.let(step(api.StepField, f.labels.number(t.S), l...), k.with)
	case api.TTag:
		return f.let(step(api.StepTag, f.tags.number(t.S), l...), k.with)
	}
	return f.let(step(api.StepOp, t.N, l...), k.with)
}

// A field is what a record has at a label.
type field struct {
	label int64
	value api.Atom
}

// record returns the step that makes a record of values at labels.
func (c *composer) record(labels []string, l []api.Atom) api.Step {
	var fields []field
	for i, a := range l {
		fields = append(fields, field{c.labels.number(labels[i]), a})
	}
	slices.SortFunc(fields, func(a, b field) int { return cmp.Compare(a.label, b.label) })
	s := api.Step{Kind: api.StepRecord}
	for _, x := range fields {
		s.Ns, s.A = append(s.Ns, x.label), append(s.A, x.value)
	}
	return s
}
