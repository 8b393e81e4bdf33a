package resolve

import (
	"slices"

	"marquetry/api"
)

// mostDepth is how deep a part of a term may be.
const mostDepth = 600

// A scope says of a variable that has been bound whether it is seen here.
type scope struct{ open bool }

// A checker goes through a term as far as that is valid.
type checker struct {
	terms, pats map[int]fields
	vars        map[int]scope // all that have been bound so far
	seen        []int         // those that are seen here, the innermost last
	left        int           // how many more parts there may be
}

// need gives up where a term is not valid.
func need(ok bool) {
	if !ok {
		panic(fault{errno: api.ErrForm})
	}
}

// bind makes a variable seen from here on.
func (c *checker) bind(v int) {
	_, again := c.vars[v]
	need(!again)
	c.vars[v] = scope{open: true}
	c.seen = append(c.seen, v)
}

// release ends the scopes that have begun since so many variables were seen.
func (c *checker) release(seen int) {
	for _, v := range c.seen[seen:] {
		c.vars[v] = scope{}
	}
	c.seen = c.seen[:seen]
}

// enter counts a part. It comes before all else, so that what contains itself has an end.
func (c *checker) enter(depth int) {
	need(depth <= mostDepth && c.left > 0)
	c.left--
}

// term goes through a term that is so deep.
func (c *checker) term(t api.Term, depth int) {
	c.enter(depth)
	f, known := c.terms[t.Kind]
	need(known)
	f.check(t.V, t.N, t.S, t.Labels, len(t.Args), len(t.Cases))
	need(t.Kind != api.TVar || c.vars[t.V].open)
	need(t.Kind != api.TOp || len(t.Args) == operands(t.N))
	need(t.Kind != api.TRec || t.Args[0].Kind == api.TFun)
	defer c.release(len(c.seen))
	for i, a := range t.Args {
		if f.binds && i == f.from {
			c.bind(t.V)
		}
		c.term(a, depth+1)
	}
	for _, k := range t.Cases {
		c.arm(k, depth+1)
	}
}

// arm goes through a case whose parts are so deep.
func (c *checker) arm(k api.Case, depth int) {
	defer c.release(len(c.seen))
	c.pat(k.P, depth)
	c.term(k.Body, depth)
}

// pat goes through a pattern that is so deep.
func (c *checker) pat(p api.TPat, depth int) {
	c.enter(depth)
	f, known := c.pats[p.Kind]
	need(known)
	f.check(p.V, p.N, p.S, p.Labels, len(p.Args), 0)
	if p.Kind == api.PVar {
		c.bind(p.V)
	}
	for _, a := range p.Args {
		c.pat(a, depth+1)
	}
}

// check gives up if a field is not as the kind has it.
func (f fields) check(v int, n int64, s string, labels []string, args, cases int) {
	need(f.v.has(int64(v)) && f.n.has(n) && f.s.has(int64(len(s))))
	need(f.args.has(int64(args)) && f.cases.has(int64(cases)))
	if !f.labeled {
		need(len(labels) == 0)
		return
	}
	need(len(labels) == args && !slices.Contains(labels, "") && !repeats(labels))
}
