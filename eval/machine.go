package eval

import "marquetry/api"

// A frame is a term that has been begun.
type frame struct {
	term  *api.Term
	scope *scope
	base  int // how many values there were when it was begun: those above are its Args'
}

// A machine evaluates a term. What remains to be done is on a stack of its own, as the calls of a program may be deeper than
// Go's own stack goes.
type machine struct {
	fuel   int64
	input  string // what has not been read
	out    []byte
	frames []frame // each but the last one waits for the value of the one after it
	values []value
}

// run returns the value of a term.
func (m *machine) run(t *api.Term) value {
	m.begin(t, nil)
	for len(m.frames) > 0 {
		m.proceed()
	}
	return m.values[0]
}

// begin begins a term.
func (m *machine) begin(t *api.Term, s *scope) {
	if m.fuel <= 0 {
		panic(end{kind: api.Fuel})
	}
	m.fuel--
	m.frames = append(m.frames, frame{t, s, len(m.values)})
}

// proceed goes on with the last frame: its term needs one more of its Args, or has all.
func (m *machine) proceed() {
	f := m.frames[len(m.frames)-1]
	if next := len(m.values) - f.base; next < needed(f.term) {
		m.begin(&f.term.Args[next], f.scope)
		return
	}
	args := m.values[f.base:]
	m.drop()
	m.finish(f.term, f.scope, args)
}

// needed returns how many of a term's Args are evaluated before it is decided what becomes of the term.
func needed(t *api.Term) int {
	switch t.Kind {
	case api.TFun:
		return 0
	case api.TLet, api.TRec, api.TIf, api.TTry:
		return 1
	}
	return len(t.Args)
}

// drop takes away the last frame and its values.
func (m *machine) drop() {
	last := len(m.frames) - 1
	m.values = m.values[:m.frames[last].base]
	m.frames = m.frames[:last]
}

// finish ends a term whose frame is dropped, in one of three ways: it gives a value, begins another term in its place, or
// raises an exception. What is given takes the place of args, which are not to be read any more then.
func (m *machine) finish(t *api.Term, s *scope, args []value) {
	switch t.Kind {
	case api.TVar:
		m.give(s.find(t.V))
	case api.TInt:
		m.give(number(t.N))
	case api.TString:
		m.give(text(t.S))
	case api.TBool:
		m.give(boolean(t.N == 1))
	case api.TUnit:
		m.give(unit{})
	case api.TExn:
		m.give(exception(t.S))
	case api.TFun:
		m.give(&function{t.V, &t.Args[0], s})
	case api.TApp:
		f := as[*function](args[0])
		m.begin(f.body, f.scope.bind(f.v, args[1]))
	case api.TLet:
		m.begin(&t.Args[1], s.bind(t.V, args[0]))
	case api.TRec:
		f := as[*function](args[0])
		f.scope = s.bind(t.V, f)
		m.begin(&t.Args[1], f.scope)
	case api.TIf:
		m.choose(t, s, as[boolean](args[0]))
	case api.TRecord:
		m.give(recordOf(t.Labels, args))
	case api.TWith:
		m.give(as[record](args[0]).with(t.S, args[1]))
	case api.TField:
		m.give(as[record](args[0]).field(t.S))
	case api.TTag:
		m.give(tagged{t.S, args[0]})
	case api.TMatch:
		m.match(t, s, args[0])
	case api.TTry:
		m.give(args[0])
	case api.TRaise:
		m.raise(as[exception](args[0]))
	case api.TOp:
		m.operate(int(t.N), args)
	}
}

// give adds the value of a term that has ended.
func (m *machine) give(v value) {
	m.values = append(m.values, v)
}

// choose goes on with one of the branches of a TIf.
func (m *machine) choose(t *api.Term, s *scope, yes boolean) {
	if yes {
		m.begin(&t.Args[1], s)
	} else {
		m.begin(&t.Args[2], s)
	}
}

// match goes on with the first case of a TMatch whose pattern matches a value.
func (m *machine) match(t *api.Term, s *scope, v value) {
	for i := range t.Cases {
		c := &t.Cases[i]
		if inner, ok := s.match(&c.P, v); ok {
			m.begin(&c.Body, inner)
			return
		}
	}
	m.raise("Match")
}

// raise ends terms up to a TTry, which goes on with its second Arg: one that has a frame waits for its first one.
func (m *machine) raise(x exception) {
	for len(m.frames) > 0 {
		f := m.frames[len(m.frames)-1]
		m.drop()
		if f.term.Kind == api.TTry {
			m.begin(&f.term.Args[1], f.scope.bind(f.term.V, x))
			return
		}
	}
	panic(end{api.Done, "raise " + string(x)})
}
