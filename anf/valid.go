package anf

import (
	"slices"

	"marquetry/api"
)

const (
	mostFuncs = 4096
	mostCaps  = 4096
	mostDepth = 32768 // of an Anf
	mostVar   = 1 << 20
)

// A scope says of a variable or a join that has been bound whether it is seen here.
type scope struct {
	open   bool
	params int // of a join
}

// A checker goes through a program as far as that is valid.
type checker struct {
	prog *api.Prog
	left int // how many more parts there may be

	// Of the function that it goes through:
	caps  int
	vars  map[int64]scope
	joins map[int]scope
}

// must gives up where a program is not valid.
func must(ok bool) {
	need(ok, api.ErrForm)
}

// program goes through the program.
func (c *checker) program() {
	p := c.prog
	must(rising(p.Labels) && rising(p.Tags) && rising(p.Exns))
	for _, name := range []string{"Bounds", "Divide", "Match", "Size"} {
		_, found := slices.BinarySearch(p.Exns, name)
		must(found)
	}
	for _, s := range p.Texts {
		must(len(s) <= api.MaxText)
	}
	must(0 < len(p.Funcs) && len(p.Funcs) <= mostFuncs && p.Funcs[0].Caps == 0)
	for i := range p.Funcs {
		must(0 <= p.Funcs[i].Caps && p.Funcs[i].Caps <= mostCaps)
	}
	for i := range p.Funcs {
		c.function(&p.Funcs[i])
	}
}

// rising reports whether names are in increasing order, and none is empty.
func rising(l []string) bool {
	before := ""
	for _, s := range l {
		if s <= before {
			return false
		}
		before = s
	}
	return true
}

// function goes through a function.
func (c *checker) function(f *api.Func) {
	c.caps = f.Caps
	c.vars = map[int64]scope{0: {open: true}, 1: {open: true}}
	c.joins = map[int]scope{}
	c.anf(&f.Body, 1)
}

// anf goes through an Anf that is so deep. Counting comes before all else, so that what contains itself has an end.
func (c *checker) anf(a *api.Anf, depth int) {
	c.left -= 1 + len(a.A) + len(a.R.A)
	must(c.left >= 0 && depth <= mostDepth)
	must(wellFormed(a))
	c.atoms(a.A)
	switch a.Kind {
	case api.AnfLet:
		c.step(&a.R)
		c.within(&a.Kids[0], depth+1, a.X)
	case api.AnfJoin:
		_, again := c.joins[a.N]
		must(!again)
		c.joins[a.N] = scope{open: true, params: len(a.Xs)}
		c.anf(&a.Kids[1], depth+1)
		c.joins[a.N] = scope{}
		c.within(&a.Kids[0], depth+1, a.Xs...)
	case api.AnfJump:
		must(c.joins[a.N] == scope{open: true, params: len(a.A)})
	default:
		for i := range a.Kids {
			c.anf(&a.Kids[i], depth+1)
		}
	}
}

// within goes through an Anf in which some more variables are seen.
func (c *checker) within(a *api.Anf, depth int, xs ...int) {
	for _, x := range xs {
		_, again := c.vars[int64(x)]
		must(!again && 2 <= x && x <= mostVar)
		c.vars[int64(x)] = scope{open: true}
	}
	c.anf(a, depth)
	for _, x := range xs {
		c.vars[int64(x)] = scope{}
	}
}

// atoms goes through Atoms.
func (c *checker) atoms(l []api.Atom) {
	for _, a := range l {
		switch a.Kind {
		case api.AtomVar:
			must(c.vars[a.N].open)
		case api.AtomNum:
			must(-1<<62 <= a.N && a.N < 1<<62)
		case api.AtomText:
			must(below(a.N, len(c.prog.Texts)))
		default:
			must(false)
		}
	}
}

// step goes through a Step.
func (c *checker) step(s *api.Step) {
	must(c.wellFormedStep(s))
	c.atoms(s.A)
	for i, n := range s.Ns { // Only a StepRecord has some.
		must(below(n, len(c.prog.Labels)) && (i == 0 || s.Ns[i-1] < n))
	}
}
