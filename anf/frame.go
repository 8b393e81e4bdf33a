package anf

import "marquetry/api"

// A frame is a function that has been called, and how far it is. It knows the one that waits for it, as calls may be deeper than
// Go's own could be.
type frame struct {
	layout  layout
	vars    []value
	joins   *joins
	at      *api.Anf // what is reached next; of a frame that waits, the AnfLet whose step is a call
	caller  *frame
	handler *closure // of a frame that waits for the first function of a StepTry: the second one
}

// Joins are those that a function has gone into, the innermost first.
type joins struct {
	last  *api.Anf
	outer *joins
}

// A layout says where a frame has the variables of a function: each one behind those that are seen where it is bound, and in the
// place of those that are not seen there any more.
type layout map[int64]int

// layoutOf returns the layout of a function.
func layoutOf(f *api.Func) layout {
	l := layout{0: 0, 1: 1}
	l.add(&f.Body, 2)
	return l
}

// add adds the variables that an Anf binds in which so many others are seen.
func (l layout) add(a *api.Anf, seen int) {
	switch a.Kind {
	case api.AnfLet:
		l[int64(a.X)] = seen
		l.add(&a.Kids[0], seen+1)
	case api.AnfJoin:
		for i, x := range a.Xs {
			l[int64(x)] = seen + i
		}
		l.add(&a.Kids[0], seen+len(a.Xs))
		l.add(&a.Kids[1], seen)
	default:
		for i := range a.Kids {
			l.add(&a.Kids[i], seen)
		}
	}
}

// find returns what a variable is bound to.
func (f *frame) find(x int64) value {
	return f.vars[f.layout[x]]
}

// bind binds a variable.
func (f *frame) bind(x int, v value) {
	f.vars = append(f.vars[:f.layout[int64(x)]], v)
}

// jump goes on with the body of a join. From there only those around it can be reached.
func (f *frame) jump(n int, l []value) {
	for f.joins.last.N != n {
		f.joins = f.joins.outer
	}
	j := f.joins.last
	f.joins = f.joins.outer
	for i, x := range j.Xs {
		f.bind(x, l[i])
	}
	f.at = &j.Kids[0]
}

// chosen returns the one of an AnfSwitch's Kids that is for a number.
func chosen(a *api.Anf, n int64) *api.Anf {
	for i := range a.Ns {
		if a.Ns[i] == n {
			return &a.Kids[i]
		}
	}
	return &a.Kids[len(a.Ns)]
}
