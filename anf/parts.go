package anf

import "marquetry/api"

func variable(x int) api.Atom {
	return api.Atom{Kind: api.AtomVar, N: int64(x)}
}

func numeral(n int64) api.Atom {
	return api.Atom{Kind: api.AtomNum, N: n}
}

// step returns a step without Ns.
func step(kind int, n int64, l ...api.Atom) api.Step {
	return api.Step{Kind: kind, N: n, A: l}
}

// leave returns the end of a way through a function: an Anf of Atoms alone.
func leave(kind int, l ...api.Atom) api.Anf {
	return api.Anf{Kind: kind, A: l}
}

// join returns a join: what jumps there, and its body.
func join(n int, xs []int, from, body api.Anf) api.Anf {
	return api.Anf{Kind: api.AnfJoin, N: n, Xs: xs, Kids: []api.Anf{body, from}}
}

// jump returns a jump to a join.
func jump(n int, l ...api.Atom) api.Anf {
	return api.Anf{Kind: api.AnfJump, N: n, A: l}
}
