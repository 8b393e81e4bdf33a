package infer

import "marquetry/api"

// termRules returns the rules by which the types of terms are found.
func (f *finder) termRules() map[int]func(*api.Term) api.Type {
	return map[int]func(*api.Term) api.Type{
		api.TVar:    f.variable,
		api.TInt:    basic(api.TyInt).term,
		api.TString: basic(api.TyString).term,
		api.TBool:   basic(api.TyBool).term,
		api.TUnit:   basic(api.TyUnit).term,
		api.TExn:    basic(api.TyExn).term,
		api.TFun:    f.function,
		api.TApp:    f.apply,
		api.TLet:    f.let,
		api.TRec:    f.recur,
		api.TIf:     f.choose,
		api.TRecord: f.record,
		api.TWith:   f.with,
		api.TField:  f.field,
		api.TTag:    f.tag,
		api.TMatch:  f.match,
		api.TTry:    f.try,
		api.TRaise:  f.raise,
		api.TOp:     f.operate,
	}
}

func (f *finder) variable(t *api.Term) api.Type {
	x := f.use(t.V)
	f.limit(x.t, t.At) // A type may have grown since, and too much for a copy.
	return f.copied(x)
}

func (f *finder) function(t *api.Term) api.Type {
	from := f.fresh()
	f.bind(t.V, from, nil)
	return plain(api.TyFun, from, f.term(&t.Args[0]))
}

func (f *finder) apply(t *api.Term) api.Type {
	callee, arg := f.term(&t.Args[0]), f.term(&t.Args[1])
	result := f.fresh()
	f.is(callee, plain(api.TyFun, arg, result), t.At)
	return result
}

func (f *finder) let(t *api.Term) api.Type {
	begun := f.now()
	of := f.term(&t.Args[0])
	var general map[int]struct{}
	if syntacticValue(&t.Args[0]) {
		general = f.general(of, begun)
	}
	f.bind(t.V, of, general)
	return f.term(&t.Args[1])
}

// syntacticValue reports whether the evaluation of a term does nothing but make a value.
func syntacticValue(t *api.Term) bool {
	switch t.Kind {
	case api.TVar, api.TInt, api.TString, api.TBool, api.TUnit, api.TExn, api.TFun:
		return true
	case api.TTag, api.TRecord:
		for i := range t.Args {
			if !syntacticValue(&t.Args[i]) {
				return false
			}
		}
		return true
	}
	return false
}

func (f *finder) recur(t *api.Term) api.Type {
	begun := f.now()
	itself := f.fresh()
	f.bind(t.V, itself, nil)
	f.is(itself, f.term(&t.Args[0]), t.Args[0].At)
	f.bind(t.V, itself, f.general(itself, begun))
	return f.term(&t.Args[1])
}

func (f *finder) choose(t *api.Term) api.Type {
	f.is(f.term(&t.Args[0]), plain(api.TyBool), t.Args[0].At)
	yes, no := f.term(&t.Args[1]), f.term(&t.Args[2])
	f.is(yes, no, t.Args[2].At)
	return yes
}

func (f *finder) record(t *api.Term) api.Type {
	var l []api.Field
	for i := range t.Args {
		l = append(l, present(t.Labels[i], f.term(&t.Args[i])))
	}
	return record(l, 0)
}

func (f *finder) with(t *api.Term) api.Type {
	of, value := f.term(&t.Args[0]), f.term(&t.Args[1])
	before := api.Field{Label: t.S, Pres: api.PresVar, P: f.Fresh(), T: f.fresh()}
	rest := f.Fresh()
	f.is(of, record([]api.Field{before}, rest), t.Args[0].At)
	return record([]api.Field{present(t.S, value)}, rest)
}

func (f *finder) field(t *api.Term) api.Type {
	of := f.term(&t.Args[0])
	value := f.fresh()
	f.is(of, record([]api.Field{present(t.S, value)}, f.Fresh()), t.Args[0].At)
	return value
}

func (f *finder) tag(t *api.Term) api.Type {
	of := f.term(&t.Args[0])
	return tags(t.S, of, f.Fresh())
}

func (f *finder) match(t *api.Term) api.Type {
	of := f.term(&t.Args[0])
	result := f.fresh()
	for i := range t.Cases {
		c := &t.Cases[i]
		f.is(of, f.pattern(&c.P), t.At)
		f.is(result, f.term(&c.Body), c.Body.At)
	}
	return result
}

func (f *finder) try(t *api.Term) api.Type {
	result := f.term(&t.Args[0])
	f.bind(t.V, plain(api.TyExn), nil)
	f.is(result, f.term(&t.Args[1]), t.Args[1].At)
	return result
}

func (f *finder) raise(t *api.Term) api.Type {
	f.is(f.term(&t.Args[0]), plain(api.TyExn), t.Args[0].At)
	return f.fresh()
}

func (f *finder) operate(t *api.Term) api.Type {
	args, result := f.signature(t.N)
	for i := range t.Args {
		f.is(f.term(&t.Args[i]), args[i], t.Args[i].At)
	}
	return result
}
