package resolve_test

import (
	"fmt"
	"strings"
	"testing"

	"marquetry/api"
	"marquetry/resolve"
)

var unit = api.Term{Kind: api.TUnit}

func use(v int) api.Term { return api.Term{Kind: api.TVar, V: v} }

func term(kind int, args ...api.Term) api.Term { return api.Term{Kind: kind, Args: args} }

func named(kind int, s string, args ...api.Term) api.Term {
	return api.Term{Kind: kind, S: s, Args: args}
}

// binding returns a term that binds a variable.
func binding(kind, v int, args ...api.Term) api.Term {
	return api.Term{Kind: kind, V: v, Args: args}
}

func match(cases ...api.Case) api.Term {
	return api.Term{Kind: api.TMatch, Args: []api.Term{unit}, Cases: cases}
}

func pvar(v int) api.TPat { return api.TPat{Kind: api.PVar, V: v} }

// on returns a match with a pattern.
func on(p api.TPat) api.Term { return match(api.Case{P: p, Body: unit}) }

// may fails if a term is not valid, or is, by itself or within others.
func may(t *testing.T, x api.Term, want bool) {
	t.Helper()
	for i, y := range []api.Term{x, term(api.TRaise, x), term(api.TIf, unit, unit, x), binding(api.TLet, 77, x, unit), binding(api.TTry, 77, unit, x), match(api.Case{P: api.TPat{Kind: api.PAny}, Body: x}), {Kind: api.TRecord, Labels: []string{"k", "l"}, Args: []api.Term{unit, x}}} {
		if resolve.May(y) != want {
			t.Errorf("%.200s, %d: not %v", fmt.Sprintf("%+v", x), i, want)
		}
	}
}

// samples are valid terms and patterns of all kinds.
func samples() ([]api.Term, []api.TPat) {
	terms := []api.Term{
		{Kind: api.TInt, N: 5}, {Kind: api.TInt}, {Kind: api.TString, S: "s"}, {Kind: api.TString}, {Kind: api.TBool, N: 1}, {Kind: api.TBool}, unit, named(api.TExn, "A"),
		binding(api.TFun, 3, unit), binding(api.TFun, 3, use(3)), term(api.TApp, unit, unit), binding(api.TLet, 3, unit, use(3)), binding(api.TRec, 3, binding(api.TFun, 4, use(3)), use(3)), term(api.TIf, unit, unit, unit),
		term(api.TRecord), {Kind: api.TRecord, Labels: []string{"b", "a"}, Args: []api.Term{unit, unit}}, named(api.TWith, "a", unit, unit), named(api.TField, "a", unit), named(api.TTag, "A", unit),
		on(api.TPat{Kind: api.PAny}), match(api.Case{P: pvar(3), Body: use(3)}, api.Case{P: pvar(4), Body: use(4)}), binding(api.TTry, 3, unit, use(3)), term(api.TRaise, unit),
	}
	pats := []api.TPat{
		{Kind: api.PAny}, pvar(0), pvar(3), {Kind: api.PInt}, {Kind: api.PInt, N: -5}, {Kind: api.PString}, {Kind: api.PString, S: "s"}, {Kind: api.PBool}, {Kind: api.PBool, N: 1}, {Kind: api.PUnit}, {Kind: api.PExn, S: "A"},
		{Kind: api.PTag, S: "A", Args: []api.TPat{pvar(3)}}, {Kind: api.PRecord}, {Kind: api.PRecord, Labels: []string{"b", "a"}, Args: []api.TPat{pvar(3), pvar(4)}},
	}
	return terms, pats
}

func TestP8_2_Samples(t *testing.T) {
	terms, pats := samples()
	for _, x := range terms {
		may(t, x, true)
		// Neither the place nor an empty list matters.
		x.At = smallest
		if len(x.Labels) == 0 {
			x.Labels = []string{}
		}
		if len(x.Args) == 0 {
			x.Args = []api.Term{}
		}
		if len(x.Cases) == 0 {
			x.Cases = []api.Case{}
		}
		may(t, x, true)
	}
	for _, p := range pats {
		may(t, on(p), true)
	}
	for _, kind := range []int{0, -1, api.TOp + 1, 99, 1<<32 + api.TUnit, largest, smallest} {
		may(t, api.Term{Kind: kind}, false)
		may(t, on(api.TPat{Kind: kind}), false)
	}
	may(t, on(api.TPat{Kind: api.PRecord + 1}), false)
}

// TestP8_2_OtherFields: each field that a kind does not have, and each number of Args that it does not have.
func TestP8_2_OtherFields(t *testing.T) {
	terms, pats := samples()
	for _, x := range terms {
		spoiled := []func(*api.Term){}
		add := func(is bool, f func(*api.Term)) {
			if is {
				spoiled = append(spoiled, f)
			}
		}
		add(true, func(x *api.Term) { x.Labels = append([]string{"l"}, x.Labels...) })
		add(true, func(x *api.Term) { x.Args = append(x.Args[:len(x.Args):len(x.Args)], unit) })
		add(len(x.Args) > 0, func(x *api.Term) { x.Args = x.Args[1:] })
		add(len(x.Labels) > 0, func(x *api.Term) { x.Labels = x.Labels[1:] })
		add(len(x.Labels) > 0, func(x *api.Term) { x.Labels = []string{"", "a"} })
		add(len(x.Labels) > 0, func(x *api.Term) { x.Labels = []string{"b", "b"} })
		add(len(x.Cases) > 0, func(x *api.Term) { x.Cases = nil })
		add(len(x.Cases) == 0, func(x *api.Term) { x.Cases = make([]api.Case, 1) })
		add(len(x.Cases) == 0, func(x *api.Term) { x.Cases = on(api.TPat{Kind: api.PAny}).Cases })
		add(x.Kind != api.TString && x.S == "", func(x *api.Term) { x.S = "s" })
		add(x.Kind != api.TString && x.S != "", func(x *api.Term) { x.S = "" })
		binds := x.Kind == api.TFun || x.Kind == api.TLet || x.Kind == api.TRec || x.Kind == api.TTry
		add(!binds, func(x *api.Term) { x.V = 1 })
		add(!binds, func(x *api.Term) { x.V = -1 })
		add(x.Kind != api.TInt && x.Kind != api.TBool, func(x *api.Term) { x.N = 1 })
		add(x.Kind != api.TInt, func(x *api.Term) { x.N = -1 })
		add(x.Kind != api.TInt, func(x *api.Term) { x.N = 1 << 32 })
		for i, spoil := range spoiled {
			y := x
			spoil(&y)
			if resolve.May(y) {
				t.Errorf("%+v, %d", y, i)
			}
			may(t, y, false)
		}
	}
	for _, p := range pats {
		spoiled := []func(*api.TPat){func(p *api.TPat) { p.Labels = append([]string{"l"}, p.Labels...) }, func(p *api.TPat) { p.Args = append(p.Args[:len(p.Args):len(p.Args)], api.TPat{Kind: api.PAny}) }}
		add := func(is bool, f func(*api.TPat)) {
			if is {
				spoiled = append(spoiled, f)
			}
		}
		add(len(p.Args) > 0, func(p *api.TPat) { p.Args = p.Args[1:] })
		add(len(p.Labels) > 0, func(p *api.TPat) { p.Labels = p.Labels[1:] })
		add(len(p.Labels) > 0, func(p *api.TPat) { p.Labels = []string{"b", ""} })
		add(len(p.Labels) > 0, func(p *api.TPat) { p.Labels = []string{"b", "b"} })
		add(p.Kind != api.PString && p.S == "", func(p *api.TPat) { p.S = "s" })
		add(p.Kind != api.PString && p.S != "", func(p *api.TPat) { p.S = "" })
		add(p.Kind != api.PVar, func(p *api.TPat) { p.V = 1 })
		add(p.Kind != api.PVar, func(p *api.TPat) { p.V = -1 })
		add(p.Kind != api.PInt && p.Kind != api.PBool, func(p *api.TPat) { p.N = 1 })
		add(p.Kind != api.PInt, func(p *api.TPat) { p.N = -1 })
		for i, spoil := range spoiled {
			y := p
			spoil(&y)
			if resolve.May(on(y)) {
				t.Errorf("%+v, %d", y, i)
			}
			may(t, on(api.TPat{Kind: api.PTag, S: "T", Args: []api.TPat{y}}), false)
			may(t, on(api.TPat{Kind: api.PRecord, Labels: []string{"k", "l"}, Args: []api.TPat{{Kind: api.PAny}, y}}), false)
		}
	}
}

func TestP8_2_Numbers(t *testing.T) {
	for n, is := range map[int64]bool{0: true, 1: true, -1: true, 1<<62 - 1: true, -1 << 62: true, 1 << 62: false, -1<<62 - 1: false, 1<<63 - 1: false, -1 << 63: false} {
		may(t, api.Term{Kind: api.TInt, N: n}, is)
		may(t, on(api.TPat{Kind: api.PInt, N: n}), is)
		may(t, api.Term{Kind: api.TBool, N: n}, n == 0 || n == 1)
		may(t, on(api.TPat{Kind: api.PBool, N: n}), n == 0 || n == 1)
	}
	may(t, api.Term{Kind: api.TBool, N: 2}, false)
	may(t, on(api.TPat{Kind: api.PBool, N: 2}), false)
}

func TestP8_2_Operations(t *testing.T) {
	counts := map[int64]int{
		api.OpAdd: 2, api.OpSub: 2, api.OpMul: 2, api.OpDiv: 2, api.OpRem: 2, api.OpNeg: 1, api.OpEq: 2, api.OpLt: 2, api.OpNot: 1, api.OpRef: 1, api.OpDeref: 1, api.OpAssign: 2,
		api.OpArray: 2, api.OpGet: 2, api.OpSet: 3, api.OpLen: 1, api.OpSize: 1, api.OpByte: 2, api.OpCat: 2, api.OpGetc: 1, api.OpPutc: 1,
	}
	for _, n := range []int64{-1 << 63, -1 << 32, -1, 0, api.OpPutc + 1, 1<<32 + api.OpAdd, 1<<63 - 1} {
		counts[n] = -1
	}
	for n, count := range counts {
		for args := range 5 {
			may(t, api.Term{Kind: api.TOp, N: n, Args: []api.Term{unit, unit, unit, unit}[:args]}, args == count)
		}
	}
}

func TestP8_2_Strings(t *testing.T) {
	for n, is := range map[int]bool{0: true, 1: true, api.MaxText: true, api.MaxText + 1: false, 1 << 20: false} {
		s := strings.Repeat("\x00", n)
		may(t, api.Term{Kind: api.TString, S: s}, is)
		may(t, on(api.TPat{Kind: api.PString, S: s}), is)
		// Names have no limit, and may be of any bytes.
		may(t, named(api.TExn, s), n > 0)
		may(t, named(api.TTag, s, unit), n > 0)
		may(t, named(api.TWith, s, unit, unit), n > 0)
		may(t, named(api.TField, s, unit), n > 0)
		may(t, on(api.TPat{Kind: api.PExn, S: s}), n > 0)
		may(t, on(api.TPat{Kind: api.PTag, S: s, Args: []api.TPat{{Kind: api.PAny}}}), n > 0)
		may(t, api.Term{Kind: api.TRecord, Labels: []string{"a", s}, Args: []api.Term{unit, unit}}, n > 0)
		may(t, on(api.TPat{Kind: api.PRecord, Labels: []string{s}, Args: []api.TPat{{Kind: api.PAny}}}), n > 0)
	}
}

func TestP8_2_Labels(t *testing.T) {
	for _, c := range []struct {
		labels string
		args   int
		is     bool
	}{{"a", 1, true}, {"a b c", 3, true}, {"c a b", 3, true}, {"a b A aa", 4, true}, {"a", 0, false}, {"", 1, false}, {"a b", 1, false}, {"a", 2, false}, {"a a", 2, false}, {"a b a", 3, false}, {"a b b", 3, false}, {"a b c d a", 5, false}} {
		x := api.Term{Kind: api.TRecord, Labels: strings.Fields(c.labels), Args: make([]api.Term, c.args)}
		p := api.TPat{Kind: api.PRecord, Labels: x.Labels, Args: make([]api.TPat, c.args)}
		for i := range c.args {
			x.Args[i], p.Args[i] = unit, api.TPat{Kind: api.PAny}
		}
		may(t, x, c.is)
		may(t, on(p), c.is)
	}
	// Two parts may have the same.
	one := api.Term{Kind: api.TRecord, Labels: []string{"a"}, Args: []api.Term{unit}}
	may(t, api.Term{Kind: api.TRecord, Labels: []string{"a", "b"}, Args: []api.Term{one, one}}, true)
}

// TestP8_2_Scopes: where the variable of each construct is seen, and where it is not.
func TestP8_2_Scopes(t *testing.T) {
	x, fun := use(3), binding(api.TFun, 4, use(3))
	may(t, x, false)
	may(t, binding(api.TFun, 3, x), true)
	may(t, binding(api.TFun, 4, x), false)
	may(t, binding(api.TLet, 3, unit, x), true)
	may(t, binding(api.TLet, 3, x, unit), false)
	may(t, binding(api.TLet, 3, x, x), false)
	may(t, binding(api.TRec, 3, fun, x), true)
	may(t, binding(api.TRec, 3, fun, unit), true)
	may(t, binding(api.TRec, 5, fun, unit), false)
	may(t, binding(api.TTry, 3, unit, x), true)
	may(t, binding(api.TTry, 3, x, unit), false)
	may(t, match(api.Case{P: pvar(3), Body: x}), true)
	may(t, match(api.Case{P: pvar(4), Body: x}), false)
	may(t, api.Term{Kind: api.TMatch, Args: []api.Term{x}, Cases: []api.Case{{P: pvar(3), Body: unit}}}, false)
	may(t, match(api.Case{P: pvar(3), Body: unit}, api.Case{P: pvar(4), Body: x}), false)
	may(t, match(api.Case{P: pvar(4), Body: x}, api.Case{P: pvar(3), Body: unit}), false)
	may(t, match(api.Case{P: api.TPat{Kind: api.PTag, S: "A", Args: []api.TPat{{Kind: api.PRecord, Labels: []string{"a", "b"}, Args: []api.TPat{pvar(4), pvar(3)}}}}, Body: term(api.TApp, x, use(4))}), true)
	// What is bound in one of the Args is not seen in the next one, nor behind the term.
	for _, inner := range []api.Term{fun, binding(api.TLet, 4, unit, unit), binding(api.TRec, 4, binding(api.TFun, 5, unit), unit), binding(api.TTry, 4, unit, unit), match(api.Case{P: pvar(4), Body: unit})} {
		may(t, binding(api.TFun, 3, term(api.TApp, inner, x)), true)
		may(t, binding(api.TFun, 3, term(api.TApp, inner, use(4))), false)
		may(t, binding(api.TFun, 3, term(api.TApp, use(4), inner)), false)
		may(t, binding(api.TFun, 3, binding(api.TLet, 6, inner, use(4))), false)
		may(t, binding(api.TFun, 3, api.Term{Kind: api.TMatch, Args: []api.Term{inner}, Cases: []api.Case{{P: pvar(6), Body: use(4)}}}), false)
		may(t, binding(api.TFun, 3, match(api.Case{P: pvar(6), Body: inner}, api.Case{P: pvar(7), Body: use(4)})), false)
		may(t, binding(api.TFun, 3, match(api.Case{P: pvar(6), Body: inner}, api.Case{P: pvar(7), Body: x})), true)
	}
	for _, v := range []int{-1, 2, 4, 1 << 32, 1<<32 + 3, largest, smallest} {
		may(t, binding(api.TFun, 3, use(v)), false)
	}
}

func TestP8_2_First(t *testing.T) {
	for _, first := range []api.Term{unit, use(3), term(api.TApp, binding(api.TFun, 4, unit), unit), binding(api.TLet, 4, unit, unit), {}, {Kind: api.TFun, V: 4}} {
		may(t, binding(api.TRec, 3, first, unit), false)
	}
	may(t, term(api.TRec), false)
	may(t, binding(api.TRec, 3, binding(api.TFun, 4, unit)), false)
}

// TestP8_2_Twice: all constructs that bind, two by two, one within the other and one after the other.
func TestP8_2_Twice(t *testing.T) {
	all := []func(v int, a api.Term) api.Term{
		func(v int, a api.Term) api.Term { return binding(api.TFun, v, a) },
		func(v int, a api.Term) api.Term { return binding(api.TLet, v, a, unit) },
		func(v int, a api.Term) api.Term { return binding(api.TLet, v, unit, a) },
		func(v int, a api.Term) api.Term { return binding(api.TRec, v, binding(api.TFun, v+50, a), unit) },
		func(v int, a api.Term) api.Term { return binding(api.TRec, v+50, binding(api.TFun, v, a), unit) },
		func(v int, a api.Term) api.Term { return binding(api.TRec, v, binding(api.TFun, v+50, unit), a) },
		func(v int, a api.Term) api.Term { return binding(api.TTry, v, a, unit) },
		func(v int, a api.Term) api.Term { return binding(api.TTry, v, unit, a) },
		func(v int, a api.Term) api.Term { return match(api.Case{P: pvar(v), Body: a}) },
		func(v int, a api.Term) api.Term {
			return api.Term{Kind: api.TMatch, Args: []api.Term{a}, Cases: []api.Case{{P: pvar(v), Body: unit}}}
		},
		func(v int, a api.Term) api.Term {
			return match(api.Case{P: pvar(v), Body: unit}, api.Case{P: pvar(v + 50), Body: a})
		},
		func(v int, a api.Term) api.Term {
			return match(api.Case{P: api.TPat{Kind: api.PTag, S: "A", Args: []api.TPat{{Kind: api.PRecord, Labels: []string{"a", "b"}, Args: []api.TPat{pvar(v + 50), pvar(v)}}}}, Body: a})
		},
	}
	for _, f := range all {
		for _, g := range all {
			for _, v := range []int{3, 4} {
				may(t, f(3, g(v, unit)), v == 4)
				may(t, term(api.TApp, f(3, unit), g(v, unit)), v == 4)
				may(t, f(3, g(v, use(5))), false)
			}
		}
		for v, is := range map[int]bool{0: true, 1: true, 1 << 20: true, 1<<20 + 1: false, -1: false, 1 << 32: false, largest - 50: false, smallest: false} {
			may(t, f(v, unit), is && v+50 <= 1<<20 || is && resolve.May(f(v, unit)))
		}
	}
	pair := func(a, b api.TPat) api.TPat {
		return api.TPat{Kind: api.PRecord, Labels: []string{"a", "b"}, Args: []api.TPat{a, b}}
	}
	may(t, on(pair(pvar(3), pvar(4))), true)
	may(t, on(pair(pvar(3), pvar(3))), false)
	may(t, on(pair(pair(pvar(3), pvar(4)), pvar(3))), false)
	may(t, match(api.Case{P: pvar(3), Body: unit}, api.Case{P: pvar(3), Body: unit}), false)
	may(t, binding(api.TRec, 3, binding(api.TFun, 3, unit), unit), false)
	// Variables need not be in any order, nor without gaps.
	may(t, binding(api.TFun, 9, binding(api.TFun, 2, binding(api.TLet, 1<<20, use(9), use(2)))), true)
}

func TestP8_2_Variables(t *testing.T) {
	for v, is := range map[int]bool{0: true, 1: true, 1<<20 - 1: true, 1 << 20: true, 1<<20 + 1: false, -1: false, 1 << 32: false, largest: false, smallest: false} {
		may(t, binding(api.TFun, v, use(v)), is)
		may(t, binding(api.TLet, v, unit, use(v)), is)
		may(t, binding(api.TRec, v, binding(api.TFun, 4, use(v)), use(v)), is)
		may(t, binding(api.TTry, v, unit, use(v)), is)
		may(t, match(api.Case{P: pvar(v), Body: use(v)}), is)
		may(t, binding(api.TFun, v, unit), is)
	}
}

// tower nests a term in n others.
func tower(n int, x api.Term) api.Term {
	for range n {
		x = term(api.TRaise, x)
	}
	return x
}

// tags nests a pattern in n others.
func tags(n int, p api.TPat) api.TPat {
	for range n {
		p = api.TPat{Kind: api.PTag, S: "A", Args: []api.TPat{p}}
	}
	return p
}

func TestP8_2_Depth(t *testing.T) {
	leaf := api.TPat{Kind: api.PAny}
	for n, is := range map[int]bool{597: true, 598: true, 599: true, 600: false, 601: false, 5000: false} {
		if resolve.May(tower(n, unit)) != is {
			t.Errorf("%d deep", n+1)
		}
		if resolve.May(on(tags(n-1, leaf))) != is {
			t.Errorf("a pattern %d deep", n+1)
		}
		if resolve.May(match(api.Case{P: leaf, Body: tower(n-1, unit)})) != is {
			t.Errorf("a body %d deep", n+1)
		}
		if resolve.May(match(api.Case{P: leaf, Body: unit}, api.Case{P: tags(n-1, leaf), Body: unit})) != is {
			t.Errorf("a second pattern %d deep", n+1)
		}
		if resolve.May(term(api.TIf, unit, unit, tower(n-1, unit))) != is {
			t.Errorf("the third of the Args %d deep", n+1)
		}
	}
}

// wide returns a term of so many parts.
func wide(parts int) api.Term {
	x := api.Term{Kind: api.TRecord}
	for i := range parts - 1 {
		x.Labels, x.Args = append(x.Labels, fmt.Sprint("l", i)), append(x.Args, unit)
	}
	return x
}

func TestP8_2_Parts(t *testing.T) {
	for n, is := range map[int]bool{api.MaxTerm - 1: true, api.MaxTerm: true, api.MaxTerm + 1: false, 2 * api.MaxTerm: false} {
		if resolve.May(wide(n)) != is {
			t.Errorf("%d parts", n)
		}
		var cases []api.Case
		for range n/2 - 1 {
			cases = append(cases, api.Case{P: api.TPat{Kind: api.PAny}, Body: unit})
		}
		if got := resolve.May(match(cases...)); got != (2*(n/2) <= api.MaxTerm) {
			t.Errorf("%d cases", len(cases))
		}
		if got := resolve.May(term(api.TApp, wide(n-api.MaxTerm/2-1), wide(api.MaxTerm/2))); got != is {
			t.Errorf("%d parts in two", n)
		}
		p := api.TPat{Kind: api.PRecord}
		for i := range n - 4 {
			p.Labels, p.Args = append(p.Labels, fmt.Sprint("l", i)), append(p.Args, pvar(i))
		}
		if got := resolve.May(on(p)); got != is {
			t.Errorf("a pattern of %d parts", len(p.Args))
		}
	}
}
