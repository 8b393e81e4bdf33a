package parse

import (
	"iter"

	"marquetry/api"
)

// A group is what has not been visited yet of the children of a part: patterns, then expressions, then arms.
type group struct {
	pats  []api.Pat
	exprs []api.Expr
	arms  []api.Arm
	depth int // of the children
}

// left reports whether there is a child to visit.
func (g *group) left() bool {
	return len(g.pats)+len(g.exprs)+len(g.arms) > 0
}

// next takes the first child out of a group that has one, and returns its place and its own children.
func (g *group) next() (int, group) {
	if len(g.pats)+len(g.exprs) == 0 {
		arm := g.arms[0]
		g.pats, g.exprs, g.arms = []api.Pat{arm.P}, []api.Expr{arm.Body}, g.arms[1:]
	}
	if len(g.pats) > 0 {
		p := g.pats[0]
		g.pats = g.pats[1:]
		return p.At, group{pats: p.Args, depth: g.depth + 1}
	}
	e := g.exprs[0]
	g.exprs = g.exprs[1:]
	return e.At, group{exprs: e.Args, arms: e.Arms, depth: g.depth + 1}
}

// parts returns the parts of an expression in order: the depth of each, and its place. It keeps a stack of its own, since
// an expression that a caller has made may be deeper than calls can be; and it takes children out one by one, since one
// that contains itself has no end.
func parts(e api.Expr) iter.Seq2[int, int] {
	return func(visit func(depth, at int) bool) {
		open := []group{{exprs: []api.Expr{e}, depth: 1}}
		for len(open) > 0 {
			last := &open[len(open)-1]
			depth := last.depth
			at, children := last.next()
			if !visit(depth, at) {
				return
			}
			if !last.left() {
				open = open[:len(open)-1]
			}
			if children.left() {
				open = append(open, children)
			}
		}
	}
}
