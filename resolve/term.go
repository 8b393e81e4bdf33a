package resolve

import (
	"strings"

	"marquetry/api"
)

// termKinds are the kinds of the terms that expressions become.
var termKinds = [...]int{
	api.EVar:    api.TVar,
	api.EInt:    api.TInt,
	api.EString: api.TString,
	api.EBool:   api.TBool,
	api.EUnit:   api.TUnit,
	api.EExn:    api.TExn,
	api.EFun:    api.TFun,
	api.EApp:    api.TApp,
	api.ELet:    api.TLet,
	api.ERec:    api.TRec,
	api.EIf:     api.TIf,
	api.ERecord: api.TRecord,
	api.EWith:   api.TWith,
	api.EField:  api.TField,
	api.ETag:    api.TTag,
	api.EMatch:  api.TMatch,
	api.ETry:    api.TTry,
	api.ERaise:  api.TRaise,
	api.EOp:     api.TOp,
	api.ESeq:    api.TLet,
	api.EAnd:    api.TIf,
	api.EOr:     api.TIf,
}

// A resolver makes terms of a printable expression and its parts.
type resolver struct {
	terms, pats map[int]fields
	next        int              // the variable that is bound next
	names       []string         // those that are bound here, the innermost last
	vars        map[string][]int // what each of them was bound to, the innermost last
}

// bind returns a new variable, to which a name refers from here on.
func (r *resolver) bind(name string) int {
	v := r.next
	r.next++
	r.names = append(r.names, name)
	r.vars[name] = append(r.vars[name], v)
	return v
}

// release takes back what has been bound since so many names were.
func (r *resolver) release(names int) {
	for _, name := range r.names[names:] {
		vars := r.vars[name]
		r.vars[name] = vars[:len(vars)-1]
	}
	r.names = r.names[:names]
}

// find returns the variable that a name is bound to here, if it is.
func (r *resolver) find(name string) (int, bool) {
	vars := r.vars[name]
	if len(vars) == 0 {
		return 0, false
	}
	return vars[len(vars)-1], true
}

// term returns the term of an expression.
func (r *resolver) term(e api.Expr) api.Term {
	switch e.Kind {
	case api.EVar:
		return r.variable(e)
	case api.EMatch:
		return r.match(e)
	case api.ETry:
		return r.try(e)
	case api.EAnd:
		t := r.plain(e)
		t.Args = append(t.Args, truth(e.At, 0))
		return t
	case api.EOr:
		t := r.plain(e)
		t.Args = []api.Term{t.Args[0], truth(e.At, 1), t.Args[1]}
		return t
	}
	return r.plain(e)
}

// plain returns a term whose Args are those of the expression. It binds the Name, if it binds anything: an expression that
// has none binds the empty one, so that the variable is one of its own.
func (r *resolver) plain(e api.Expr) api.Term {
	r.labels(e.Labels, e.At)
	defer r.release(len(r.names))
	kind := termKinds[e.Kind]
	f := r.terms[kind]
	t := api.Term{Kind: kind, At: e.At, N: e.N, S: f.text(e.Name, e.S), Labels: clones(e.Labels)}
	for i, a := range e.Args {
		if f.binds && i == f.from {
			t.V = r.bind(e.Name)
		}
		t.Args = append(t.Args, r.term(a))
	}
	return t
}

// variable returns the term of a name.
func (r *resolver) variable(e api.Expr) api.Term {
	v, bound := r.find(e.Name)
	if !bound || e.Name == "_" {
		panic(fault{api.ErrName, e.At})
	}
	return api.Term{Kind: api.TVar, At: e.At, V: v}
}

// match returns the term of a match.
func (r *resolver) match(e api.Expr) api.Term {
	t := r.plain(e)
	t.Cases = r.cases(e.Arms)
	return t
}

// try returns the term of a try: what none of its cases matches is raised again.
func (r *resolver) try(e api.Expr) api.Term {
	defer r.release(len(r.names))
	t := r.plain(e)
	t.V = r.bind("")
	raised := api.Term{Kind: api.TVar, At: e.At, V: t.V}
	again := api.Term{Kind: api.TRaise, At: e.At, Args: []api.Term{raised}}
	cases := append(r.cases(e.Arms), api.Case{P: api.TPat{Kind: api.PAny}, Body: again})
	t.Args = append(t.Args, api.Term{Kind: api.TMatch, At: e.At, Args: []api.Term{raised}, Cases: cases})
	return t
}

// truth returns the term of a truth value.
func truth(at int, n int64) api.Term {
	return api.Term{Kind: api.TBool, At: at, N: n}
}

// cases returns the cases of arms.
func (r *resolver) cases(arms []api.Arm) []api.Case {
	var l []api.Case
	for _, a := range arms {
		l = append(l, r.arm(a))
	}
	return l
}

// arm returns the case of an arm.
func (r *resolver) arm(a api.Arm) api.Case {
	defer r.release(len(r.names))
	p := r.pat(a.P, r.next)
	return api.Case{P: p, Body: r.term(a.Body)}
}

// pat returns the pattern of a case whose variables begin with first.
func (r *resolver) pat(p api.Pat, first int) api.TPat {
	r.labels(p.Labels, p.At)
	t := api.TPat{Kind: p.Kind, N: p.N, S: r.pats[p.Kind].text(p.Name, p.S), Labels: clones(p.Labels)}
	if p.Kind == api.PVar {
		if v, bound := r.find(p.Name); bound && v >= first {
			panic(fault{api.ErrTwice, p.At})
		}
		t.V = r.bind(p.Name)
	}
	for _, a := range p.Args {
		t.Args = append(t.Args, r.pat(a, first))
	}
	return t
}

// labels gives up at a place whose labels are not all different.
func (r *resolver) labels(l []string, at int) {
	if repeats(l) {
		panic(fault{api.ErrTwice, at})
	}
}

// clones returns the same strings in memory of their own.
func clones(l []string) []string {
	var m []string
	for _, s := range l {
		m = append(m, strings.Clone(s))
	}
	return m
}
