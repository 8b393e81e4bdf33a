package anf

import "marquetry/api"

// An end is how a run ends. A panic carries it from wherever that turns out.
type end struct {
	kind   int
	result string
}

// outcome returns the outcome of a run that ends so.
func (m *machine) outcome(e end) api.Outcome {
	return api.Outcome{Kind: e.kind, Out: string(m.out), Result: e.result}
}

// A machine runs a program.
type machine struct {
	prog    *api.Prog
	layouts []layout // of the functions
	kind    int      // of the result's type
	fuel    int64
	input   string // what has not been read
	out     []byte
	running *frame
}

// run returns what the first function returns.
func (m *machine) run() value {
	for i := range m.prog.Funcs {
		m.layouts = append(m.layouts, layoutOf(&m.prog.Funcs[i]))
	}
	m.enter(&closure{}, number(0), nil)
	for {
		m.spend()
		if m.running.at.Kind == api.AnfRet && m.running.caller == nil {
			return m.value(m.running.at.A[0])
		}
		m.proceed(m.running.at)
	}
}

// spend takes the fuel for an Anf that is reached.
func (m *machine) spend() {
	if m.fuel <= 0 {
		panic(end{kind: api.Fuel})
	}
	m.fuel--
}

// proceed executes an Anf, which decides what is reached next.
func (m *machine) proceed(a *api.Anf) {
	f := m.running
	switch a.Kind {
	case api.AnfLet:
		m.step(&a.R, m.values(a.R.A))
	case api.AnfRet:
		v := m.value(a.A[0])
		m.resume(f.caller)
		m.give(v)
	case api.AnfTail:
		m.enter(as[*closure](m.value(a.A[0])), m.value(a.A[1]), f.caller)
	case api.AnfRaise:
		m.raise(int64(as[number](m.value(a.A[0]))))
	case api.AnfIf:
		f.at = &a.Kids[0]
		if as[number](m.value(a.A[0])) == 0 {
			f.at = &a.Kids[1]
		}
	case api.AnfSwitch:
		f.at = chosen(a, int64(as[number](m.value(a.A[0]))))
	case api.AnfJoin:
		f.joins = &joins{a, f.joins}
		f.at = &a.Kids[1]
	case api.AnfJump:
		f.jump(a.N, m.values(a.A))
	}
}

// value returns what an Atom is.
func (m *machine) value(a api.Atom) value {
	switch a.Kind {
	case api.AtomVar:
		return m.running.find(a.N)
	case api.AtomNum:
		return number(a.N)
	}
	return text(m.prog.Texts[a.N])
}

// values returns what Atoms are.
func (m *machine) values(l []api.Atom) []value {
	var vs []value
	for _, a := range l {
		vs = append(vs, m.value(a))
	}
	return vs
}

// enter begins a function, for which a frame waits.
func (m *machine) enter(c *closure, x value, caller *frame) {
	m.running = &frame{layout: m.layouts[c.function], vars: []value{c, x}, at: &m.prog.Funcs[c.function].Body, caller: caller}
}

// call begins a function, for which the running one waits.
func (m *machine) call(c *closure, x value) {
	m.enter(c, x, m.running)
}

// resume goes back to a frame that waits.
func (m *machine) resume(f *frame) {
	m.running = f
	f.handler = nil // What that is for has ended.
}

// give goes on with the result of the step that the running function has reached.
func (m *machine) give(v value) {
	a := m.running.at
	m.running.bind(a.X, v)
	m.running.at = &a.Kids[0]
}

// raise ends functions up to one that waits for the first function of a StepTry: the second one is called then.
func (m *machine) raise(n int64) {
	name := m.exception(n)
	for f := m.running.caller; f != nil; f = f.caller {
		if handler := f.handler; handler != nil {
			m.resume(f)
			m.call(handler, number(n))
			return
		}
	}
	panic(end{api.Done, "raise " + name})
}
