package anf_test

import (
	"fmt"
	"math"
	"slices"
	"strings"
	"testing"

	"marquetry/anf"
	"marquetry/api"
)

// judged fails if May does not report what it should of a program, or Run does not what it should of one that is not valid. It
// returns whether the program is valid.
func judged(t *testing.T, p api.Prog) bool {
	t.Helper()
	want := valid(p)
	if got := anf.May(p); got != want {
		t.Errorf("%.2000s: %v", fmt.Sprintf("%+v", p), got)
	}
	if !want {
		if got := anf.Run(p, api.TyInt, "", plenty); got != stuck("") {
			t.Errorf("%.2000s: %v", fmt.Sprintf("%+v", p), got)
		}
	}
	return want
}

// is fails if a program is not as valid as is stated.
func is(t *testing.T, want bool, what string, p api.Prog) {
	t.Helper()
	if judged(t, p) != want {
		t.Errorf("%s: not %v", what, want)
	}
}

var one = ret(num(1))

// move returns a step that is not more than a step.
func move() api.Step { return step(api.StepMove, 0, num(1)) }

// TestP13_1_Names: names, texts and numbers of functions and of what they capture.
func TestP13_1_Names(t *testing.T) {
	for _, c := range []struct {
		l  []string
		ok bool
	}{{nil, true}, {[]string{}, true}, {[]string{"a"}, true}, {[]string{""}, false}, {[]string{"", "a"}, false}, {[]string{"a", "b"}, true}, {[]string{"b", "a"}, false}, {[]string{"a", "a"}, false}, {[]string{"a", "aa", "b"}, true}, {[]string{"B", "a"}, true}, {[]string{"a", "B"}, false}, {[]string{"\x00", "\xff", "\xff\x00"}, true}, {[]string{"a", "c", "b"}, false}, {[]string{"a", strings.Repeat("b", 1<<20)}, true}} {
		p := program(one)
		p.Labels = c.l
		is(t, c.ok, fmt.Sprintf("labels %.50q", c.l), p)
		p = program(one)
		p.Tags = c.l
		is(t, c.ok, fmt.Sprintf("tags %.50q", c.l), p)
		p = program(one)
		p.Texts = c.l
		if len(c.l) < 2 || len(c.l[1]) < 1<<20 {
			is(t, true, fmt.Sprintf("texts %.50q", c.l), p)
		}
	}
	all := []string{"Bounds", "Divide", "Match", "Size"}
	for i := range all {
		p := program(one)
		p.Exns = slices.Delete(slices.Clone(all), i, i+1)
		is(t, false, "without "+all[i], p)
		p.Exns = slices.Insert(slices.Clone(all), i, "")
		is(t, false, "an empty one", p)
		p.Exns = slices.Insert(slices.Clone(all), i, all[i])
		is(t, false, all[i]+" twice", p)
		p.Exns = slices.Insert(slices.Clone(all), i, all[i][:1])
		is(t, true, "one more", p)
		p.Exns = slices.Insert(slices.Clone(all), i+1, all[i]+"A")
		is(t, true, "another one more", p)
		p.Exns = slices.Clone(all)
		p.Exns[i] += "A"
		is(t, false, "another one instead", p)
		p.Exns[i] = all[(i+1)%4]
		is(t, false, "another one twice", p)
	}
	p := program(one)
	p.Exns = nil
	is(t, false, "no exceptions", p)
	p = program(one)
	p.Texts = []string{"", strings.Repeat("\xff", api.MaxText)}
	is(t, true, "a long text", p)
	p.Texts = append(p.Texts, strings.Repeat("a", api.MaxText+1))
	is(t, false, "a text that is too long", p)
	is(t, false, "no functions", program())
	is(t, false, "nothing", api.Prog{})
	is(t, false, "an empty body", program(api.Anf{}))
	is(t, false, "an empty body later", program(one, one, api.Anf{}))
	is(t, true, "two functions", program(one, one))
	is(t, true, "4096 functions", program(slices.Repeat([]api.Anf{one}, 4096)...))
	is(t, false, "4097 functions", program(slices.Repeat([]api.Anf{one}, 4097)...))
	for n, ok := range map[int]bool{0: true, 1: true, 4096: true, 4097: false, -1: false, math.MaxInt: false, math.MinInt: false} {
		is(t, ok && n == 0, "captured by the first function", capturing(program(one), n))
		is(t, ok, fmt.Sprint(n, " captured"), capturing(program(one, one, one), 0, n, 0))
		is(t, ok, fmt.Sprint(n, " captured by the last function"), capturing(program(one, one, one), 0, 1, n))
	}
}

// TestP13_1_Fields: all Anfs that are put together from a few values a field.
func TestP13_1_Fields(t *testing.T) {
	t.Parallel()
	tried, ok := 0, map[int]int{}
	kids := [][]api.Anf{nil, {}, {one}, {one, one}, {one, one, one}, {jump(1, num(1)), one}, {one, jump(1)}, {one, jump(1, num(1))}, {ret(v(5)), one}}
	for kind := -1; kind <= api.AnfJump+1; kind++ {
		for _, x := range []int{0, 5, -1} {
			for _, xs := range [][]int{nil, {}, {5}, {5, 6}, {1}} {
				for _, n := range []int{0, 1, -1} {
					for _, ns := range [][]int64{nil, {}, {0}, {1, 2}, {2, 2}} {
						for _, r := range []api.Step{{}, move(), {Kind: api.StepMove}, {Ns: []int64{0}}, {A: []api.Atom{num(1)}}, {N: 1}} {
							for _, a := range [][]api.Atom{nil, {}, {num(1)}, {num(1), v(0)}, {v(5)}} {
								for _, k := range kids {
									tried++
									if judged(t, program(api.Anf{Kind: kind, X: x, Xs: xs, N: n, Ns: ns, R: r, A: a, Kids: k})) {
										ok[kind]++
									}
								}
							}
						}
					}
				}
			}
		}
	}
	for kind := api.AnfLet; kind <= api.AnfJoin; kind++ {
		if ok[kind] == 0 {
			t.Errorf("%d: %v", kind, ok)
		}
	}
	if tried < 100000 || len(ok) != 7 {
		t.Errorf("%v of %d", ok, tried)
	}
}

// TestP13_1_Steps: all Steps that are put together from a few values a field, in a function that captures two values.
func TestP13_1_Steps(t *testing.T) {
	tried, ok := 0, map[int]int{}
	for kind := -1; kind <= api.StepKnown+1; kind++ {
		for n := int64(-2); n <= api.OpPutc+2; n++ {
			for _, ns := range [][]int64{nil, {}, {0}, {2}, {3}, {-1}, {0, 2}, {2, 0}, {1, 1}, {0, 1, 2}, {0, 1, 2, 3}} {
				for _, a := range [][]api.Atom{nil, {}, {num(1)}, {num(1), v(0)}, {v(5)}, {v(1), v(2)}, {txt(3), v(1), num(2)}, {num(1), num(1), v(7)}, {num(1), num(2), num(3), num(4)}} {
					tried++
					b := let(2, move(), let(5, api.Step{Kind: kind, N: n, Ns: ns, A: a}, one))
					if judged(t, capturing(program(one, b, one), 0, 2, 1)) {
						ok[kind]++
					}
				}
			}
		}
	}
	for kind := api.StepMove; kind <= api.StepKnown; kind++ {
		if ok[kind] == 0 {
			t.Errorf("%d: %v", kind, ok)
		}
	}
	if tried < 30000 || len(ok) != api.StepKnown {
		t.Errorf("%v of %d", ok, tried)
	}
}

// TestP13_1_Numbers: the numbers of functions, labels, tags and captured values that there are.
func TestP13_1_Numbers(t *testing.T) {
	one := func(r api.Step, is func(n int64) bool) {
		t.Helper()
		for _, n := range []int64{-1, 0, 1, 2, 3, 4, math.MaxInt64, math.MinInt64, 1 << 32, 1<<32 + 1} {
			r.N = n
			if got := judged(t, capturing(program(one, let(2, r, one), one, one), 0, 4, 1, 2)); got != is(n) {
				t.Errorf("%+v: %v", r, got)
			}
		}
	}
	upTo := func(last int64) func(int64) bool {
		return func(n int64) bool { return 0 <= n && n <= last }
	}
	only := func(l ...int64) func(int64) bool { return func(n int64) bool { return slices.Contains(l, n) } }
	one(step(api.StepMove, 0, num(1)), only(0))
	one(step(api.StepKnown, 0, num(1), num(1)), upTo(3))
	one(step(api.StepClosure, 0), only(0))
	one(step(api.StepClosure, 0, num(1)), only(2))
	one(step(api.StepClosure, 0, num(1), num(2)), only(3))
	one(step(api.StepClosure, 0, num(1), num(2), num(3), num(4)), only(1))
	one(step(api.StepClosure, 0, num(1), num(2), num(3)), only())
	one(step(api.StepCapture, 0), upTo(3))
	one(step(api.StepWith, 0, num(1), num(1)), upTo(2))
	one(step(api.StepField, 0, num(1)), upTo(2))
	one(step(api.StepTag, 0, num(1)), upTo(1))
	one(step(api.StepTagOf, 0, num(1)), only(0))
	one(step(api.StepUntag, 0, num(1)), only(0))
	one(step(api.StepSame, 0, num(1), num(1)), only(0))
	one(step(api.StepTry, 0, num(1), num(1)), only(0))
	one(step(api.StepCall, 0, num(1), num(1)), only(0))
	one(record(nil), only(0))
	is(t, false, "what a function without captured values captured", program(let(2, step(api.StepCapture, 0), ret(num(1)))))
	is(t, false, "what another function captured", capturing(program(let(2, step(api.StepCapture, 0), ret(num(1))), ret(num(1))), 0, 1))
	none := program(let(2, record(nil), ret(num(1))))
	none.Labels, none.Tags = nil, nil
	is(t, true, "an empty record without labels", none)
	none.Funcs[0].Body.R = step(api.StepField, 0, num(1))
	is(t, false, "a field without labels", none)
	none.Funcs[0].Body.R = step(api.StepTag, 0, num(1))
	is(t, false, "a tag without tags", none)
}

// TestP13_1_Atoms: which Atoms there may be.
func TestP13_1_Atoms(t *testing.T) {
	for a, ok := range map[api.Atom]bool{
		v(0): true, v(1): true, v(2): false, v(-1): false, v(1 << 32): false, v(math.MinInt64): false,
		num(0): true, num(-1): true, num(1<<62 - 1): true, num(1 << 62): false, num(-1 << 62): true, num(-1<<62 - 1): false, num(math.MaxInt64): false, num(math.MinInt64): false,
		txt(0): true, txt(3): true, txt(4): false, txt(-1): false, txt(math.MaxInt64): false, txt(1 << 32): false,
		{}: false, {Kind: 4}: false, {Kind: -1}: false, {Kind: 4, N: 1}: false, {Kind: math.MinInt}: false,
	} {
		what := fmt.Sprintf("%+v", a)
		is(t, ok, what, program(ret(a)))
		is(t, ok, what, program(raise(a)))
		is(t, ok, what, program(tail(a, num(1))))
		is(t, ok, what, program(tail(num(1), a)))
		is(t, ok, what, program(when(a, one, one)))
		is(t, ok, what, program(choose(a, []int64{1}, one, one)))
		is(t, ok, what, program(join(1, []int{5, 6}, one, jump(1, num(1), a))))
		is(t, ok, what, program(let(2, op(api.OpSet, num(1), a, num(1)), one)))
		is(t, ok, what, program(one, let(2, record([]int64{0, 1}, num(1), a), one)))
		is(t, ok, what, capturing(program(let(2, step(api.StepClosure, 1, num(1), a), one), one), 0, 2))
	}
	p := program(ret(txt(0)))
	p.Texts = nil
	is(t, false, "a text where there is none", p)
}

// TestP13_1_Switch: the numbers of an AnfSwitch.
func TestP13_1_Switch(t *testing.T) {
	for _, c := range []struct {
		ns   []int64
		kids int
		ok   bool
	}{{nil, 1, false}, {nil, 2, false}, {[]int64{5}, 2, true}, {[]int64{5}, 1, false}, {[]int64{5}, 3, false}, {[]int64{-5, 5}, 3, true}, {[]int64{5, -5}, 3, false}, {[]int64{5, 5}, 3, false}, {[]int64{1, 2, 2}, 4, false}, {[]int64{1, 3, 2}, 4, false}, {[]int64{1, 2, 3}, 4, true}, {[]int64{1, 2, 3}, 3, false}, {[]int64{math.MinInt64, math.MaxInt64}, 3, true}, {[]int64{math.MaxInt64, math.MinInt64}, 3, false}} {
		is(t, c.ok, fmt.Sprint(c), program(choose(v(1), c.ns, slices.Repeat([]api.Anf{one}, c.kids)...)))
	}
	is(t, false, "a branch that is not valid", program(choose(v(1), []int64{1, 2}, one, ret(v(5)), one)))
	is(t, false, "a last branch that is not valid", program(choose(v(1), []int64{1, 2}, one, one, ret(v(5)))))
}

// TestP13_1_Scopes: where variables are visible, and where jumps may go.
func TestP13_1_Scopes(t *testing.T) {
	use := func(x int64) api.Anf { return ret(v(x)) }
	for i, c := range []struct {
		b  api.Anf
		ok bool
	}{
		{let(2, move(), use(2)), true},
		{let(2, move(), use(3)), false},
		{let(2, step(api.StepMove, 0, v(2)), one), false},
		{let(2, step(api.StepMove, 0, v(3)), let(3, move(), one)), false},
		{let(2, move(), let(3, step(api.StepMove, 0, v(2)), use(3))), true},
		{let(2, move(), let(3, move(), use(2))), true},
		{let(3, move(), let(2, move(), use(3))), true},
		{let(2, move(), let(2, move(), one)), false},
		{let(2, move(), when(v(2), use(2), use(2))), true},
		{when(v(1), let(2, move(), use(2)), one), true},
		{when(v(1), let(2, move(), one), use(2)), false},
		{when(v(1), one, let(2, move(), use(2))), true},
		{when(v(1), let(2, move(), one), let(3, move(), use(2))), false},
		{when(v(1), let(2, move(), use(2)), let(2, move(), use(2))), false},
		{when(v(1), let(2, move(), one), let(2, move(), one)), false},
		{choose(v(1), []int64{1}, let(2, move(), one), use(2)), false},
		{choose(v(1), []int64{1}, let(2, move(), use(2)), let(3, move(), use(3))), true},
		{join(1, []int{5}, use(5), one), true},
		{join(1, []int{5}, one, use(5)), false},
		{join(1, []int{5, 6}, let(7, op(api.OpAdd, v(5), v(6)), use(7)), jump(1, num(1), num(2))), true},
		{join(1, []int{5, 5}, use(5), one), false},
		{join(1, []int{5, 6}, let(6, move(), one), one), false},
		{join(1, []int{5}, one, let(5, move(), one)), false},
		{join(1, nil, let(5, move(), one), let(5, move(), one)), false},
		{join(1, nil, let(5, move(), use(5)), let(6, move(), use(6))), true},
		{join(1, nil, use(6), let(6, move(), jump(1))), false},
		{join(1, nil, let(5, move(), one), use(5)), false},
		{let(2, move(), join(1, nil, use(2), use(2))), true},
		{let(2, move(), join(1, []int{2}, one, one)), false},
		{join(1, []int{0}, one, one), false},
		{join(1, []int{1}, one, one), false},
		{join(1, []int{-5}, one, one), false},
		{join(1, []int{2}, use(2), one), true},
		{join(1, []int{1 << 20}, use(1<<20), one), true},
		{join(1, []int{1<<20 + 1}, one, one), false},
		{let(0, move(), one), false},
		{let(1, move(), one), false},
		{let(-2, move(), one), false},
		{let(1<<20, move(), use(1<<20)), true},
		{let(1<<20+1, move(), one), false},
		{let(1<<32+2, move(), one), false},
		{let(math.MinInt, move(), one), false},
		// Jumps.
		{jump(1), false},
		{jump(0), false},
		{join(1, nil, one, jump(1)), true},
		{join(1, nil, one, jump(2)), false},
		{join(1, nil, jump(1), one), false},
		{join(1, nil, one, jump(1, num(1))), false},
		{join(1, []int{5}, one, jump(1)), false},
		{join(1, []int{5}, one, jump(1, v(5))), false},
		{join(1, []int{5}, one, jump(1, num(1), num(2))), false},
		{join(1, []int{5}, one, when(v(1), jump(1, num(1)), jump(1, num(2)))), true},
		{join(1, []int{5}, one, when(v(1), jump(1, num(1)), jump(1))), false},
		{join(1, nil, one, let(2, move(), when(v(2), choose(v(1), []int64{1}, jump(1), one), jump(1)))), true},
		{join(0, nil, one, jump(0)), true},
		{join(-7, nil, one, jump(-7)), true},
		{join(math.MaxInt, nil, one, jump(math.MaxInt)), true},
		{join(1, nil, one, join(2, nil, jump(1), jump(2))), true},
		{join(1, nil, one, join(2, nil, jump(2), jump(1))), false},
		{join(1, nil, join(2, nil, one, jump(2)), jump(1)), true},
		{join(1, nil, join(2, nil, one, jump(1)), jump(1)), false},
		{join(1, nil, join(2, nil, one, one), jump(2)), false},
		{when(v(1), join(1, nil, one, one), jump(1)), false},
		{join(1, nil, one, join(1, nil, one, one)), false},
		{join(1, nil, join(1, nil, one, one), one), false},
		{when(v(1), join(1, nil, one, one), join(1, nil, one, one)), false},
		{when(v(1), join(1, nil, one, one), join(2, nil, one, one)), true},
		{join(1, []int{5}, one, join(2, []int{6, 7}, jump(1, v(7)), jump(2, num(1), num(2)))), true},
		{join(1, []int{5}, one, join(2, []int{6, 7}, jump(1, v(6), v(7)), jump(2, num(1), num(2)))), false},
		{join(1, []int{5}, jump(2), join(2, nil, one, one)), false},
	} {
		is(t, c.ok, fmt.Sprint(i), program(c.b))
		is(t, c.ok, fmt.Sprint(i, " as another function"), program(one, c.b, one))
		is(t, c.ok, fmt.Sprint(i, " deeper"), program(let(10, move(), when(v(10), let(11, move(), one), c.b))))
		is(t, c.ok, fmt.Sprint(i, " in a join"), program(join(10, []int{11}, c.b, jump(10, num(1)))))
		is(t, c.ok, fmt.Sprint(i, " ahead of a join"), program(join(10, []int{11}, one, c.b)))
	}
	// Each function has variables and joins of its own.
	is(t, true, "the same variables", program(let(2, move(), use(2)), let(2, move(), use(2))))
	is(t, true, "the same joins", program(join(1, []int{2}, use(2), jump(1, num(1))), join(1, []int{2}, use(2), jump(1, num(1)))))
	is(t, false, "a variable of another function", program(let(2, move(), use(2)), use(2)))
	is(t, false, "a join of another function", program(join(1, nil, one, jump(1)), jump(1)))
}

// chain returns n steps, and a return.
func chain(n int, r func(i int) api.Step) api.Anf {
	b := one
	for i := range n {
		b = let(n-i+1, r(n-i-1), b)
	}
	return b
}

// TestP13_1_Limits: how many parts there may be, and how deep they may be.
func TestP13_1_Limits(t *testing.T) {
	small := func(int) api.Step { return step(api.StepClosure, 0) } // of one part, with its Anf
	moves := func(int) api.Step { return move() }                   // of two
	is(t, true, "the most parts", program(chain(32767, moves)))
	is(t, false, "too many", program(chain(32768, moves)))
	is(t, true, "the deepest one", program(chain(32767, small)))
	is(t, false, "one that is too deep", program(chain(32768, small)))
	is(t, false, "one that is much too deep", program(chain(60000, small)))
	is(t, true, "the deepest one in another function", program(one, chain(32767, small), chain(30000, small)))
	is(t, false, "one that is too deep in another function", program(one, chain(32768, small)))
	// 65536 parts: 2 each of one and of those of chain at its end, and of what comes before.
	half := chain(16383, moves)
	is(t, true, "in two functions", program(half, half))
	is(t, false, "one more in another function", program(half, half, one))
	is(t, false, "one more in the second one", program(half, let(1<<20, small(0), half)))
	is(t, false, "one more in the first one", program(let(1<<20, small(0), half), half))
	atoms := func(n int) []api.Atom { return slices.Repeat([]api.Atom{num(1)}, n) }
	xs := func(n int) []int {
		var l []int
		for i := range n {
			l = append(l, i+2)
		}
		return l
	}
	is(t, true, "a jump of many", program(join(1, xs(65531), one, jump(1, atoms(65531)...))))
	is(t, true, "a jump of the most", program(join(1, xs(65532), one, jump(1, atoms(65532)...))))
	is(t, false, "a jump of too many", program(join(1, xs(65533), one, jump(1, atoms(65533)...))))
	is(t, true, "many parameters", program(join(1, xs(200000), one, one)))
	is(t, false, "one parameter twice", program(join(1, append(xs(200000), 77777), one, one)))
	wide := func(n int) api.Prog {
		p := program(let(2, record(nil, atoms(n)...), one))
		p.Labels = nil
		for i := range n {
			p.Labels = append(p.Labels, fmt.Sprintf("%06d", i))
			p.Funcs[0].Body.R.Ns = append(p.Funcs[0].Body.R.Ns, int64(i))
		}
		return p
	}
	is(t, true, "the widest record", wide(65533))
	is(t, false, "one that is too wide", wide(65534))
	branches := func(n int) api.Anf {
		b := choose(num(1), nil, slices.Repeat([]api.Anf{one}, n+1)...)
		for i := range n {
			b.Ns = append(b.Ns, int64(i))
		}
		return b
	}
	is(t, true, "the most branches", program(branches(32766)))
	is(t, false, "too many branches", program(branches(32767)))
	// What is around the deepest one counts, whatever it is.
	for what, around := range map[string]func(b api.Anf) api.Anf{
		"a branch":         func(b api.Anf) api.Anf { return when(num(1), b, one) },
		"another branch":   func(b api.Anf) api.Anf { return when(num(1), one, b) },
		"a last branch":    func(b api.Anf) api.Anf { return choose(num(1), []int64{1, 2}, one, one, b) },
		"a middle branch":  func(b api.Anf) api.Anf { return choose(num(1), []int64{1, 2}, one, b, one) },
		"a join's body":    func(b api.Anf) api.Anf { return join(1, nil, b, one) },
		"a join":           func(b api.Anf) api.Anf { return join(1, nil, one, b) },
		"the body of many": func(b api.Anf) api.Anf { return join(1, []int{40000, 40001}, b, one) },
	} {
		is(t, true, "the deepest one in "+what, program(around(chain(32766, small))))
		is(t, false, "one that is too deep in "+what, program(around(chain(32767, small))))
	}
	is(t, true, "deep joins", program(deepJoins(32767)))
	is(t, false, "joins that are too deep", program(deepJoins(32768)))
	is(t, true, "deep branches", program(deepIfs(16383)))
	is(t, false, "too many deep branches", program(deepIfs(16384)))
}

// deepJoins returns joins each of which is in the body of another one.
func deepJoins(n int) api.Anf {
	b := one
	for i := range n {
		b = join(i, nil, b, jump(i))
	}
	return b
}

// deepIfs returns branches within one another.
func deepIfs(n int) api.Anf {
	b := one
	for range n {
		b = when(num(1), b, one)
	}
	return b
}
