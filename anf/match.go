package anf

import (
	"cmp"
	"slices"

	"marquetry/api"
)

// A matching is a decision that is being composed.
type matching struct {
	*function
	decision
	root   *place         // what is matched
	shared []int          // for each case the join that has it as its body, or 0
	fail   func() api.Anf // composes what follows if no case matches
	k      rest
}

// A place is a part of what is matched that has a name here.
type place struct {
	at    api.Atom
	parts map[string]*place // by the next step of a path
}

func newPlace(a api.Atom) *place {
	return &place{a, map[string]*place{}}
}

// match composes the decisions between the cases of a match, and what remains.
func (f *function) match(l []decision, x api.Atom, k rest) api.Anf {
	bodies := 0
	for _, d := range l {
		bodies += d.reached()
	}
	if bodies == 1 { // Nothing else goes on with the rest.
		return f.decide(l, x, k)
	}
	return f.fork(k, func(k rest) api.Anf { return f.decide(l, x, k) })
}

// decide composes decisions, each of which is taken if the one before it fails.
func (f *function) decide(l []decision, x api.Atom, k rest) api.Anf {
	m := &matching{function: f, decision: l[0], root: newPlace(x), shared: make([]int, len(l[0].cases)), k: k}
	if len(l) == 1 {
		m.fail = func() api.Anf { return f.raise("Match") }
		return m.whole()
	}
	n := f.newJoin()
	m.fail = func() api.Anf { return jump(n) }
	from := m.whole()
	return join(n, nil, from, f.decide(l[1:], x, k))
}

// whole composes the decision. A case to which several leaves lead is the body of a join.
func (m *matching) whole() api.Anf {
	for i, l := range m.leaves {
		if len(l) > 1 {
			m.shared[i] = m.newJoin()
		}
	}
	a := m.node(&m.tree)
	for i, n := range m.shared {
		if n > 0 {
			a = join(n, nil, a, m.body(m.leaves[i][0]))
		}
	}
	return a
}

// node composes a part of the tree.
func (m *matching) node(t *api.Tree) api.Anf {
	switch {
	case t.Kind == api.TreeFail:
		return m.fail()
	case t.Kind == api.TreeTest:
		return m.fetch(t.Path, func(x api.Atom) api.Anf { return m.test(t, x) })
	case m.shared[t.Case] > 0:
		return jump(m.shared[t.Case])
	}
	return m.body(t)
}

// body composes the case of a leaf.
func (m *matching) body(t *api.Tree) api.Anf {
	return m.bind(t.Binds, func() api.Anf { return m.term(&m.cases[t.Case].Body, m.k) })
}

// bind composes what variables are bound to, and what follows.
func (m *matching) bind(l []api.Bind, with func() api.Anf) api.Anf {
	if len(l) == 0 {
		return with()
	}
	return m.fetch(l[0].Path, func(x api.Atom) api.Anf {
		m.vars[l[0].V] = x
		return m.bind(l[1:], with)
	})
}

// fetch composes the steps of a path, and what follows. Those that have been made on the way here are not repeated.
func (m *matching) fetch(path []string, with func(api.Atom) api.Anf) api.Anf {
	near, rest := m.root, path
	for len(rest) > 0 && near.parts[rest[0]] != nil {
		near, rest = near.parts[rest[0]], rest[1:]
	}
	if len(rest) == 0 {
		return with(near.at)
	}
	return m.let(m.into(near.at, rest[0]), func(x api.Atom) api.Anf {
		near.parts[rest[0]] = newPlace(x)
		a := m.fetch(path, with)
		delete(near.parts, rest[0]) // Elsewhere in the function it has no name.
		return a
	})
}

// into returns the step that leads from a value to a part of it.
func (c *composer) into(x api.Atom, part string) api.Step {
	if part == "" {
		return step(api.StepUntag, 0, x)
	}
	return step(api.StepField, c.labels.number(part), x)
}

// test composes the test of a value.
func (m *matching) test(t *api.Tree, x api.Atom) api.Anf {
	// The first branch is that of the case which is tried first: with a value of another kind it is stuck, so that branches of other
	// kinds are never taken.
	kind := t.Branches[0].P.Kind
	other := func(b api.Branch) bool { return b.P.Kind != kind }
	branches := slices.DeleteFunc(slices.Clone(t.Branches), other)
	switch kind {
	case api.PString:
		return m.texts(branches, &t.Else[0], x)
	case api.PTag:
		return m.let(step(api.StepTagOf, 0, x), func(n api.Atom) api.Anf { return m.numbers(branches, &t.Else[0], n) })
	}
	return m.numbers(branches, &t.Else[0], x)
}

// texts composes branches for strings.
func (m *matching) texts(l []api.Branch, otherwise *api.Tree, x api.Atom) api.Anf {
	if len(l) == 0 {
		return m.node(otherwise)
	}
	same := step(api.StepSame, 0, x, m.text(l[0].P.S))
	return m.let(same, func(is api.Atom) api.Anf {
		kids := []api.Anf{m.node(&l[0].T), m.texts(l[1:], otherwise, x)}
		return api.Anf{Kind: api.AnfIf, A: []api.Atom{is}, Kids: kids}
	})
}

// numbers composes branches for what numbers stand for.
func (m *matching) numbers(l []api.Branch, otherwise *api.Tree, x api.Atom) api.Anf {
	slices.SortFunc(l, func(a, b api.Branch) int { return cmp.Compare(m.standsFor(a.P), m.standsFor(b.P)) })
	s := api.Anf{Kind: api.AnfSwitch, A: []api.Atom{x}}
	for i := range l {
		s.Ns = append(s.Ns, m.standsFor(l[i].P))
		s.Kids = append(s.Kids, m.node(&l[i].T))
	}
	s.Kids = append(s.Kids, m.node(otherwise))
	return s
}

// standsFor returns the number that stands for a constant other than a string, or for a tag.
func (c *composer) standsFor(p api.TPat) int64 {
	switch p.Kind {
	case api.PTag:
		return c.tags.number(p.S)
	case api.PExn:
		return c.exns.number(p.S)
	}
	return p.N
}
