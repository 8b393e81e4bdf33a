package anf

import "marquetry/api"

// What an Anf has: numbers as they are, and how many there are of everything else.
type anfFields struct {
	x, xs, n, ns int
	step         bool
	atoms, kids  int
}

// wellFormed reports whether an Anf has exactly the fields of its kind.
func wellFormed(a *api.Anf) bool {
	has := anfFields{a.X, len(a.Xs), a.N, len(a.Ns), a.R.Kind != 0 || stepOf(&a.R) != stepFields{}, len(a.A), len(a.Kids)}
	switch a.Kind {
	case api.AnfLet:
		return has == anfFields{x: a.X, step: true, kids: 1}
	case api.AnfRet, api.AnfRaise:
		return has == anfFields{atoms: 1}
	case api.AnfTail:
		return has == anfFields{atoms: 2}
	case api.AnfIf:
		return has == anfFields{atoms: 1, kids: 2}
	case api.AnfSwitch:
		return has == anfFields{ns: len(a.Ns), atoms: 1, kids: len(a.Ns) + 1} && choices(a.Ns)
	case api.AnfJoin:
		return has == anfFields{xs: len(a.Xs), n: a.N, kids: 2}
	case api.AnfJump:
		return has == anfFields{n: a.N, atoms: len(a.A)}
	}
	return false
}

// choices reports whether the Ns of an AnfSwitch are in increasing order, and there is one.
func choices(ns []int64) bool {
	for i := range ns {
		if i > 0 && ns[i-1] >= ns[i] {
			return false
		}
	}
	return len(ns) > 0
}

// What a Step has: N, and how many there are of everything else.
type stepFields struct {
	n         int64
	ns, atoms int
}

func stepOf(s *api.Step) stepFields {
	return stepFields{s.N, len(s.Ns), len(s.A)}
}

// wellFormedStep reports whether a Step has exactly the fields of its kind, and its N is something that there is.
func (c *checker) wellFormedStep(s *api.Step) bool {
	has, p := stepOf(s), c.prog
	switch s.Kind {
	case api.StepMove, api.StepTagOf, api.StepUntag:
		return has == stepFields{atoms: 1}
	case api.StepOp:
		return has == stepFields{n: s.N, atoms: operands(s.N)}
	case api.StepCall, api.StepSame, api.StepTry:
		return has == stepFields{atoms: 2}
	case api.StepKnown:
		return has == stepFields{n: s.N, atoms: 2} && below(s.N, len(p.Funcs))
	case api.StepClosure:
		return below(s.N, len(p.Funcs)) && has == stepFields{n: s.N, atoms: p.Funcs[s.N].Caps}
	case api.StepCapture:
		return has == stepFields{n: s.N} && below(s.N, c.caps)
	case api.StepRecord:
		return has == stepFields{ns: len(s.Ns), atoms: len(s.Ns)}
	case api.StepWith:
		return has == stepFields{n: s.N, atoms: 2} && below(s.N, len(p.Labels))
	case api.StepField:
		return has == stepFields{n: s.N, atoms: 1} && below(s.N, len(p.Labels))
	case api.StepTag:
		return has == stepFields{n: s.N, atoms: 1} && below(s.N, len(p.Tags))
	}
	return false
}

// below reports whether a number is one of so many.
func below(n int64, count int) bool {
	return 0 <= n && n < int64(count)
}

// operands returns how many operands an operation has, or -1 if there is no such operation.
func operands(op int64) int {
	switch op {
	case api.OpNeg, api.OpNot, api.OpRef, api.OpDeref, api.OpLen, api.OpSize, api.OpGetc, api.OpPutc:
		return 1
	case api.OpSet:
		return 3
	}
	if op < api.OpAdd || op > api.OpPutc {
		return -1
	}
	return 2
}
