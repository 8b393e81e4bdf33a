package anf_test

import (
	"fmt"
	"runtime/debug"
	"slices"
	"strings"
	"testing"

	"marquetry/anf"
	"marquetry/api"
)

// comes fails if a program has another outcome, or the model says that it should have another one.
func comes(t *testing.T, what string, p api.Prog, kind int, input string, fuel int64, want api.Outcome) {
	t.Helper()
	if got := anf.Run(p, kind, input, fuel); got != want {
		t.Errorf("%s: %.300q, not %.300q", what, fmt.Sprint(got), fmt.Sprint(want))
	}
	if got := modelled(p, kind, input, fuel); got != want {
		t.Errorf("%s: the model: %.300q, not %.300q", what, fmt.Sprint(got), fmt.Sprint(want))
	}
}

// makes fails if the steps that begin with variable 5, whose last result is returned, have another outcome. Function 1 returns
// what it is handed, function 2 what it captured, function 3 raises it, function 4 adds what it captured and what it is handed.
func makes(t *testing.T, want api.Outcome, l ...api.Step) {
	t.Helper()
	main := lets(5, l, ret(v(int64(4+len(l)))))
	second := lets(2, []api.Step{step(api.StepCapture, 0)}, ret(v(2)))
	fourth := lets(2, []api.Step{step(api.StepCapture, 0), op(api.OpAdd, v(2), v(1))}, ret(v(3)))
	p := capturing(program(main, ret(v(1)), second, raise(v(1)), fourth), 0, 0, 1, 0, 1)
	comes(t, fmt.Sprintf("%.200s", fmt.Sprintf("%+v", l)), p, api.TyInt, "", 999, want)
}

// TestP13_1_StepResults: what each kind of step gives.
func TestP13_1_StepResults(t *testing.T) {
	n := func(s string) api.Outcome { return done("", s) }
	closure := func(n int64, l ...api.Atom) api.Step { return step(api.StepClosure, n, l...) }
	makes(t, n("7"), step(api.StepMove, 0, num(7)))
	makes(t, n("0"), step(api.StepMove, 0, v(1)))
	makes(t, n("<fun>"), step(api.StepMove, 0, v(0)))
	makes(t, n(`"x"`), step(api.StepMove, 0, txt(3)))
	makes(t, n("7"), closure(1), step(api.StepCall, 0, v(5), num(7)))
	makes(t, n("<fun>"), closure(1), step(api.StepCall, 0, v(5), v(5)))
	makes(t, n("7"), closure(2, num(7)), step(api.StepCall, 0, v(5), num(1)))
	makes(t, n("raise Foo"), closure(3), step(api.StepCall, 0, v(5), num(foo)))
	makes(t, n("12"), closure(4, num(5)), step(api.StepCall, 0, v(5), num(7)))
	makes(t, stuck(""), step(api.StepCall, 0, num(1), num(7)))
	makes(t, stuck(""), step(api.StepCall, 0, txt(0), num(7)))
	makes(t, n("12"), closure(4, num(5)), step(api.StepKnown, 4, v(5), num(7)))
	makes(t, stuck(""), closure(4, num(5)), step(api.StepKnown, 2, v(5), num(7)))
	makes(t, stuck(""), closure(2, num(5)), step(api.StepKnown, 4, v(5), num(7)))
	makes(t, stuck(""), step(api.StepKnown, 0, num(0), num(7)))
	// Each closure has captured values of its own.
	makes(t, n("63"), closure(2, num(60)), closure(2, num(3)), step(api.StepCall, 0, v(5), num(1)), step(api.StepCall, 0, v(6), num(1)), op(api.OpAdd, v(7), v(8)))
	makes(t, n("<record>"), record(nil))
	makes(t, n("<record>"), record([]int64{0, 2}, num(3), num(4)))
	makes(t, n("3"), record([]int64{0, 2}, num(3), num(4)), step(api.StepField, 0, v(5)))
	makes(t, n("4"), record([]int64{0, 2}, num(3), num(4)), step(api.StepField, 2, v(5)))
	makes(t, stuck(""), record([]int64{0, 2}, num(3), num(4)), step(api.StepField, 1, v(5)))
	makes(t, stuck(""), record(nil), step(api.StepField, 0, v(5)))
	makes(t, stuck(""), step(api.StepField, 0, num(0)))
	makes(t, n("9"), record([]int64{0, 2}, num(3), num(4)), step(api.StepWith, 2, v(5), num(9)), step(api.StepField, 2, v(6)))
	makes(t, n("3"), record([]int64{0, 2}, num(3), num(4)), step(api.StepWith, 2, v(5), num(9)), step(api.StepField, 0, v(6)))
	makes(t, n("4"), record([]int64{0, 2}, num(3), num(4)), step(api.StepWith, 2, v(5), num(9)), step(api.StepField, 2, v(5)))
	makes(t, n("9"), record([]int64{0, 2}, num(3), num(4)), step(api.StepWith, 1, v(5), num(9)), step(api.StepField, 1, v(6)))
	makes(t, n("4"), record([]int64{0, 2}, num(3), num(4)), step(api.StepWith, 1, v(5), num(9)), step(api.StepField, 2, v(6)))
	makes(t, stuck(""), record([]int64{0, 2}, num(3), num(4)), step(api.StepWith, 1, v(5), num(9)), step(api.StepField, 1, v(5)))
	makes(t, n("9"), record(nil), step(api.StepWith, 1, v(5), num(9)), step(api.StepField, 1, v(6)))
	makes(t, stuck(""), step(api.StepWith, 1, num(5), num(9)))
	makes(t, n("<tag>"), step(api.StepTag, 1, num(3)))
	makes(t, n("1"), step(api.StepTag, 1, num(3)), step(api.StepTagOf, 0, v(5)))
	makes(t, n("0"), step(api.StepTag, 0, num(3)), step(api.StepTagOf, 0, v(5)))
	makes(t, n("3"), step(api.StepTag, 1, num(3)), step(api.StepUntag, 0, v(5)))
	makes(t, n("<tag>"), step(api.StepTag, 1, num(3)), step(api.StepTag, 0, v(5)), step(api.StepUntag, 0, v(6)))
	makes(t, stuck(""), step(api.StepTagOf, 0, num(1)))
	makes(t, stuck(""), step(api.StepUntag, 0, num(1)))
	makes(t, stuck(""), record(nil), step(api.StepUntag, 0, v(5)))
	makes(t, n("1"), step(api.StepSame, 0, txt(0), txt(0)))
	makes(t, n("1"), step(api.StepSame, 0, txt(0), txt(2)))
	makes(t, n("0"), step(api.StepSame, 0, txt(0), txt(1)))
	makes(t, n("1"), op(api.OpCat, txt(1), txt(0)), step(api.StepSame, 0, v(5), txt(2)))
	makes(t, stuck(""), step(api.StepSame, 0, txt(0), num(0)))
	makes(t, stuck(""), step(api.StepSame, 0, num(0), txt(0)))
	makes(t, stuck(""), step(api.StepSame, 0, num(0), num(0)))
	// Identities: what is written by one is read by the other.
	makes(t, n("8"), op(api.OpRef, num(3)), step(api.StepMove, 0, v(5)), op(api.OpAssign, v(6), num(8)), op(api.OpDeref, v(5)))
	makes(t, n("3"), op(api.OpRef, num(3)), op(api.OpRef, num(3)), op(api.OpAssign, v(6), num(8)), op(api.OpDeref, v(5)))
	makes(t, n("8"), op(api.OpArray, num(3), num(1)), record([]int64{0}, v(5)), step(api.StepField, 0, v(6)), op(api.OpSet, v(7), num(2), num(8)), op(api.OpGet, v(5), num(2)))
	makes(t, n("1"), op(api.OpArray, num(3), num(1)), op(api.OpSet, v(5), num(2), num(8)), op(api.OpGet, v(5), num(1)))
	makes(t, n("1"), op(api.OpArray, num(3), num(1)), op(api.OpArray, num(3), num(1)), op(api.OpSet, v(5), num(2), num(8)), op(api.OpGet, v(6), num(2)))
}

// samples are steps that make values of each kind, the last one of which is what is asked for.
func samples() map[string][]api.Step {
	return map[string][]api.Step{
		"n0":    {step(api.StepMove, 0, num(0))},
		"n1":    {step(api.StepMove, 0, num(1))},
		"n-1":   {step(api.StepMove, 0, num(-1))},
		"n2":    {step(api.StepMove, 0, num(2))},
		"n256":  {step(api.StepMove, 0, num(256))},
		"n257":  {step(api.StepMove, 0, num(257))},
		"nmost": {step(api.StepMove, 0, num(1<<62-1))},
		"nmin":  {step(api.StepMove, 0, num(-1<<62))},
		"s":     {step(api.StepMove, 0, txt(0))},
		"s0":    {step(api.StepMove, 0, txt(1))},
		"slong": {op(api.OpCat, txt(4), txt(4))},
		"f":     {step(api.StepMove, 0, v(0))},
		"r":     {record([]int64{1}, num(5))},
		"t":     {step(api.StepTag, 1, num(5))},
		"p":     {op(api.OpRef, txt(3))},
		"a":     {op(api.OpArray, num(2), num(5))},
		"a0":    {op(api.OpArray, num(0), num(5))},
	}
}

// TestP13_1_Operations: all operations with operands of all kinds, and the steps that take one or two values.
func TestP13_1_Operations(t *testing.T) {
	all := samples()
	var names []string
	for name := range all {
		names = append(names, name)
	}
	slices.Sort(names)
	tally := map[int]int{}
	try := func(r api.Step, operands ...string) {
		var l []api.Step
		r.A = nil
		for _, name := range operands {
			l = append(l, all[name]...)
			r.A = append(r.A, v(int64(1+len(l))))
		}
		l = append(l, r)
		for _, kind := range []int{api.TyInt, api.TyBool} {
			p := program(lets(2, l, ret(v(int64(1+len(l))))))
			p.Texts = append(p.Texts, strings.Repeat("l", api.MaxText/2))
			want := modelled(p, kind, "\xfe", 99)
			tally[want.Kind]++
			if got := anf.Run(p, kind, "\xfe", 99); got != want {
				t.Errorf("%+v with %v: %.200q, not %.200q", r, operands, fmt.Sprint(got), fmt.Sprint(want))
			}
		}
	}
	for _, x := range names {
		for o, kinds := range operations {
			if len(kinds) == 1 {
				try(op(o), x)
			}
		}
		for _, k := range []int{api.StepMove, api.StepTagOf, api.StepUntag, api.StepField, api.StepTag} {
			n := int64(0)
			if k == api.StepField || k == api.StepTag {
				n = 1
			}
			try(step(k, n), x)
		}
		for _, y := range names {
			for o, kinds := range operations {
				if len(kinds) == 2 {
					try(op(o), x, y)
				}
			}
			try(step(api.StepSame, 0), x, y)
			try(step(api.StepWith, 0), x, y)
			for _, z := range []string{"n1", "s", "f", "a"} {
				try(op(api.OpSet), x, y, z)
			}
		}
	}
	if tally[api.Done] < 500 || tally[api.Stuck] < 5000 {
		t.Errorf("%v", tally)
	}
}

// TestP13_1_OperationResults: what operations give and raise, stated one by one.
func TestP13_1_OperationResults(t *testing.T) {
	n := func(s string) api.Outcome { return done("", s) }
	for _, c := range []struct {
		op   int64
		a, b int64
		want string
	}{
		{api.OpAdd, 1<<62 - 1, 1, "-4611686018427387904"}, {api.OpSub, 3, 5, "-2"}, {api.OpMul, -6, 7, "-42"}, {api.OpDiv, -7, 2, "-3"}, {api.OpRem, -7, 2, "-1"},
		{api.OpDiv, 1, 0, "raise Divide"}, {api.OpRem, 1, 0, "raise Divide"}, {api.OpEq, 3, 3, "1"}, {api.OpEq, 3, 4, "0"}, {api.OpLt, 3, 4, "1"}, {api.OpLt, 4, 4, "0"},
	} {
		makes(t, n(c.want), op(c.op, num(c.a), num(c.b)))
	}
	for x, want := range map[int64]string{0: "1", 1: "0", 2: "0", -1: "0"} {
		makes(t, n(want), op(api.OpNot, num(x)))
	}
	makes(t, n("-5"), op(api.OpNeg, num(5)))
	makes(t, n("0"), op(api.OpRef, num(3)), op(api.OpAssign, v(5), num(4)))
	makes(t, n("0"), op(api.OpArray, num(1), num(4)), op(api.OpSet, v(5), num(0), num(3)))
	makes(t, n("raise Bounds"), op(api.OpArray, num(1), num(4)), op(api.OpSet, v(5), num(1), num(3)))
	makes(t, n("raise Bounds"), op(api.OpArray, num(1), num(4)), op(api.OpGet, v(5), num(-1)))
	makes(t, n("raise Size"), op(api.OpArray, num(257), num(4)))
	makes(t, n("raise Size"), op(api.OpArray, num(-1), num(4)))
	makes(t, n("256"), op(api.OpArray, num(256), num(4)), op(api.OpLen, v(5)))
	makes(t, n("2"), op(api.OpSize, txt(0)))
	makes(t, n("98"), op(api.OpByte, txt(0), num(1)))
	makes(t, n("raise Bounds"), op(api.OpByte, txt(0), num(2)))
	makes(t, n(`"abx"`), op(api.OpCat, txt(0), txt(3)))
	makes(t, n("-1"), op(api.OpGetc, num(0)))
	makes(t, n("-1"), op(api.OpGetc, num(7)))
	makes(t, done("A", "0"), op(api.OpPutc, num(65+256)))
	makes(t, done("\xff", "0"), op(api.OpPutc, num(-1)))
	p := program(lets(2, []api.Step{op(api.OpGetc, num(0)), op(api.OpGetc, num(0)), op(api.OpGetc, num(0)), op(api.OpPutc, v(3)), op(api.OpMul, v(2), num(1000)), op(api.OpAdd, v(6), v(4))}, ret(v(7))))
	comes(t, "input", p, api.TyInt, "\x01\xfe", 9, done("\xfe", "999"))
	comes(t, "input", p, api.TyInt, "\x01\xfe\x03\x04", 9, done("\xfe", "1003"))
}

// TestP13_1_Results: the texts of results, which depend on the kind of their type only if they are numbers.
func TestP13_1_Results(t *testing.T) {
	for kind := -1; kind <= api.TyTags+1; kind++ {
		for n, texts := range map[int64][4]string{0: {"0", "false", "()", "Bounds"}, 1: {"1", "true", "()", "Divide"}, 5: {"5", "true", "()", "Size"}, 6: {"6", "true", "()", ""}, -1: {"-1", "true", "()", ""}, 1<<62 - 1: {"4611686018427387903", "true", "()", ""}, -1 << 62: {"-4611686018427387904", "true", "()", ""}} {
			want := done("A", texts[0])
			switch kind {
			case api.TyBool:
				want = done("A", texts[1])
			case api.TyUnit:
				want = done("A", texts[2])
			case api.TyExn:
				want = done("A", texts[3])
				if texts[3] == "" {
					want = stuck("A")
				}
			}
			comes(t, fmt.Sprint(n, " of ", kind), program(say(2, 65, ret(num(n)))), kind, "", 99, want)
		}
		for name, want := range map[string]string{"s": `"ab"`, "s0": `""`, "f": "<fun>", "r": "<record>", "t": "<tag>", "p": "<ref>", "a": "<array>", "a0": "<array>"} {
			l := samples()[name]
			comes(t, fmt.Sprint(name, " of ", kind), program(lets(2, l, ret(v(int64(1+len(l)))))), kind, "", 99, done("", want))
		}
		comes(t, fmt.Sprint("an exception of ", kind), program(say(2, 65, raise(num(foo)))), kind, "", 99, done("A", "raise Foo"))
	}
	p := program(ret(txt(0)))
	p.Texts[0] = "a\"\xc8\n"
	comes(t, "a text", p, api.TyString, "", 99, done("", `"a\"\xc8\n"`))
}

// TestP13_1_Control: where each kind of Anf leads.
func TestP13_1_Control(t *testing.T) {
	say := func(c int64) api.Anf { return say(90+int(c), c, ret(num(c))) }
	for x, c := range map[int64]string{0: "B66", 1: "A65", 2: "A65", -1: "A65"} {
		comes(t, fmt.Sprint("if ", x), program(when(num(x), say(65), say(66))), 0, "", 99, done(c[:1], c[1:]))
	}
	for x, c := range map[int64]string{-3: "A65", 0: "D68", 1: "B66", 2: "D68", 7: "C67", 8: "D68", -4: "D68"} {
		comes(t, fmt.Sprint("switch ", x), program(choose(num(x), []int64{-3, 1, 7}, say(65), say(66), say(67), say(68))), 0, "", 99, done(c[:1], c[1:]))
	}
	for name, l := range samples() {
		if name[0] == 'n' {
			continue
		}
		x := v(int64(1 + len(l)))
		for i, b := range []api.Anf{when(x, one, one), choose(x, []int64{1}, one, one), raise(x)} {
			comes(t, fmt.Sprint(i, " of ", name), program(lets(2, l[:len(l):len(l)], b)), 0, "", 99, stuck(""))
		}
		want := stuck("")
		if name == "f" {
			want = spent("")
		}
		comes(t, "tail call of "+name, program(lets(2, l, tail(x, num(1)))), 0, "", 99, want)
	}
	comes(t, "tail call of a number", program(tail(num(0), num(0))), 0, "", 99, stuck(""))
	// Joins: their parameters get all values at the same time, and from their bodies one goes on to those around them.
	swap := join(1, []int{5, 6}, let(7, op(api.OpSub, v(5), v(6)), ret(v(7))), join(2, []int{8, 9}, jump(1, v(9), v(8)), jump(2, num(3), num(10))))
	comes(t, "two joins", program(swap), 0, "", 99, done("", "7"))
	both := join(1, []int{5}, ret(v(5)), join(2, nil, jump(1, num(4)), when(v(1), jump(2), jump(1, num(6)))))
	comes(t, "one of two joins", program(both), 0, "", 99, done("", "6"))
	both.Kids[1].Kids[1].A[0] = num(1)
	comes(t, "the other one", program(both), 0, "", 99, done("", "4"))
	comes(t, "a join that is not jumped to", program(join(1, []int{5}, ret(v(5)), ret(num(8)))), 0, "", 99, done("", "8"))
	same := let(2, step(api.StepClosure, 1), let(3, step(api.StepCall, 0, v(2), num(1)), let(4, step(api.StepCall, 0, v(2), num(0)), let(5, op(api.OpMul, v(3), num(10)), let(6, op(api.OpAdd, v(5), v(4)), ret(v(6)))))))
	comes(t, "joins of calls", program(same, join(1, []int{2}, ret(v(2)), when(v(1), jump(1, num(3)), jump(1, num(4))))), 0, "", 99, done("", "34"))
	inner := let(3, step(api.StepClosure, 1), let(4, step(api.StepCall, 0, v(3), num(1)), jump(1, v(4))))
	comes(t, "a call within a join", program(join(1, []int{2}, ret(v(2)), inner), join(1, []int{2}, let(3, op(api.OpAdd, v(2), num(1)), ret(v(3))), jump(1, num(50)))), 0, "", 99, done("", "51"))
	// A raise needs an exception, even if nothing catches it.
	for n, want := range map[int64]api.Outcome{-1: stuck(""), 0: done("", "raise Bounds"), 5: done("", "raise Size"), 6: stuck(""), 1 << 40: stuck(""), -1 << 62: stuck("")} {
		comes(t, fmt.Sprint("raise ", n), program(raise(num(n))), 0, "", 99, want)
	}
	// What a function is handed, and that it is itself.
	count := when(v(1), let(2, op(api.OpSub, v(1), num(1)), let(3, step(api.StepCall, 0, v(0), v(2)), let(4, op(api.OpAdd, v(3), num(2)), ret(v(4))))), ret(num(100)))
	comes(t, "itself", program(let(2, step(api.StepClosure, 1), tail(v(2), num(6))), count), 0, "", 99, done("", "112"))
}

// TestP13_1_Try: what raises within the first function of a StepTry, however deep, is handed to the second one.
func TestP13_1_Try(t *testing.T) {
	// Function 1 calls what it captured with what it is handed, 2 says what it is handed and raises Foo, 3 adds 10 to it, 4 raises
	// what it is handed, 5 tries function 2 with 3.
	bodies := []api.Anf{
		lets(2, []api.Step{step(api.StepCapture, 0), step(api.StepCall, 0, v(2), v(1))}, ret(v(3))),
		let(2, op(api.OpPutc, v(1)), raise(num(foo))),
		let(2, op(api.OpAdd, v(1), num(10)), ret(v(2))),
		raise(v(1)),
		lets(2, []api.Step{step(api.StepClosure, 2), step(api.StepClosure, 3), step(api.StepTry, 0, v(2), v(3)), op(api.OpMul, v(4), num(100))}, ret(v(5))),
	}
	for i, c := range []struct {
		l    []api.Step
		want api.Outcome
	}{
		{[]api.Step{step(api.StepClosure, 3), step(api.StepClosure, 4), step(api.StepTry, 0, v(5), v(6))}, done("", "10")},
		{[]api.Step{step(api.StepClosure, 4), step(api.StepClosure, 3), step(api.StepTry, 0, v(5), v(6))}, done("", "10")},
		{[]api.Step{step(api.StepClosure, 2), step(api.StepClosure, 3), step(api.StepTry, 0, v(5), v(6))}, done("\x00", "12")},
		{[]api.Step{step(api.StepClosure, 2), step(api.StepClosure, 1, v(5)), step(api.StepClosure, 3), step(api.StepTry, 0, v(6), v(7))}, done("\x00", "12")},
		{[]api.Step{step(api.StepClosure, 2), step(api.StepClosure, 4), step(api.StepTry, 0, v(5), v(6))}, done("\x00", "raise Foo")},
		{[]api.Step{step(api.StepClosure, 2), step(api.StepTry, 0, v(5), v(5))}, done("\x00\x02", "raise Foo")},
		{[]api.Step{step(api.StepClosure, 5), step(api.StepClosure, 4), step(api.StepTry, 0, v(5), v(6))}, done("\x00", "1200")},
		// The first function has ended: what comes later is not caught any more.
		{[]api.Step{step(api.StepClosure, 3), step(api.StepTry, 0, v(5), v(5)), step(api.StepClosure, 4), step(api.StepCall, 0, v(7), num(foo))}, done("", "raise Foo")},
		{[]api.Step{step(api.StepClosure, 2), step(api.StepClosure, 3), step(api.StepTry, 0, v(5), v(6)), op(api.OpDiv, v(7), num(0))}, done("\x00", "raise Divide")},
		// Stuck at once if one of both is not a closure.
		{[]api.Step{step(api.StepClosure, 2), step(api.StepTry, 0, v(5), num(1))}, stuck("")},
		{[]api.Step{step(api.StepClosure, 2), step(api.StepTry, 0, num(1), v(5))}, stuck("")},
		{[]api.Step{step(api.StepTry, 0, num(1), txt(1))}, stuck("")},
		// Nothing catches what is stuck.
		{[]api.Step{step(api.StepClosure, 1, num(5)), step(api.StepClosure, 3), step(api.StepTry, 0, v(5), v(6))}, stuck("")},
		// What operations raise is caught, too.
		{[]api.Step{step(api.StepClosure, 6), step(api.StepClosure, 3), step(api.StepTry, 0, v(5), v(6))}, done("", "11")},
		{[]api.Step{step(api.StepClosure, 7), step(api.StepClosure, 3), step(api.StepTry, 0, v(5), v(6))}, done("", "15")},
		{[]api.Step{step(api.StepClosure, 8), step(api.StepClosure, 3), step(api.StepTry, 0, v(5), v(6))}, done("", "10")},
		// A tail call keeps what catches.
		{[]api.Step{step(api.StepClosure, 9), step(api.StepClosure, 3), step(api.StepTry, 0, v(5), v(6))}, done("\x00", "12")},
	} {
		all := slices.Concat([]api.Anf{lets(5, c.l, ret(v(int64(4+len(c.l)))))}, bodies, []api.Anf{
			let(2, op(api.OpDiv, num(1), num(0)), ret(v(2))),
			let(2, op(api.OpArray, num(-1), num(0)), ret(v(2))),
			let(2, op(api.OpByte, txt(1), num(0)), ret(v(2))),
			let(2, step(api.StepClosure, 2), tail(v(2), v(1))),
		})
		comes(t, fmt.Sprint(i), capturing(program(all...), 0, 1), 0, "", 999, c.want)
	}
}

// TestP13_1_Fuel: each Anf that is reached costs 1.
func TestP13_1_Fuel(t *testing.T) {
	id := ret(v(1))
	for i, c := range []struct {
		p    api.Prog
		cost int64
		end  api.Outcome
	}{
		{program(ret(num(1))), 1, done("", "1")},
		{program(raise(num(foo))), 1, done("", "raise Foo")},
		{program(raise(num(9))), 1, stuck("")},
		{program(let(2, move(), ret(v(2)))), 2, done("", "1")},
		{program(let(2, op(api.OpAdd, num(1), txt(0)), ret(v(2)))), 1, stuck("")},
		{program(when(num(1), ret(num(1)), ret(num(2)))), 2, done("", "1")},
		{program(choose(num(1), []int64{1}, ret(num(1)), ret(num(2)))), 2, done("", "1")},
		{program(join(1, nil, ret(num(1)), ret(num(2)))), 2, done("", "2")},
		{program(join(1, nil, ret(num(1)), jump(1))), 3, done("", "1")},
		{program(let(2, step(api.StepClosure, 1), let(3, step(api.StepCall, 0, v(2), num(7)), ret(v(3)))), id), 4, done("", "7")},
		{program(let(2, step(api.StepClosure, 1), let(3, step(api.StepKnown, 1, v(2), num(7)), ret(v(3)))), id), 4, done("", "7")},
		{program(let(2, step(api.StepClosure, 1), tail(v(2), num(7))), id), 3, done("", "7")},
		{program(let(2, step(api.StepClosure, 1), let(3, step(api.StepTry, 0, v(2), v(2)), ret(v(3)))), id), 4, done("", "0")},
		{program(let(2, step(api.StepClosure, 1), let(3, step(api.StepClosure, 2), let(4, step(api.StepTry, 0, v(2), v(3)), ret(v(4))))), raise(num(foo)), id), 6, done("", "2")},
	} {
		for fuel := int64(-1); fuel < c.cost+3; fuel++ {
			want := c.end
			if fuel < c.cost {
				want = spent("")
			}
			comes(t, fmt.Sprint(i, " with ", fuel), c.p, api.TyInt, "", fuel, want)
		}
		comes(t, fmt.Sprint(i), c.p, api.TyInt, "", -1<<63, spent(""))
		comes(t, fmt.Sprint(i), c.p, api.TyInt, "", 1<<63-1, c.end)
	}
}

// TestP13_1_Calls: calls may be deeper than Go's own could be, and tail calls keep nothing.
func TestP13_1_Calls(t *testing.T) {
	defer debug.SetMaxStack(debug.SetMaxStack(1 << 20))
	again := func(last api.Anf, l ...api.Step) api.Anf {
		return when(v(1), lets(2, append([]api.Step{op(api.OpSub, v(1), num(1))}, l...), ret(v(int64(2+len(l))))), last)
	}
	start := let(2, step(api.StepClosure, 1), tail(v(2), num(100000)))
	caught := lets(2, []api.Step{step(api.StepClosure, 1), step(api.StepClosure, 2, v(2)), step(api.StepClosure, 3), step(api.StepTry, 0, v(3), v(4))}, ret(v(5)))
	thunk := let(2, step(api.StepCapture, 0), tail(v(2), num(100000)))
	for what, c := range map[string]struct {
		p    api.Prog
		want api.Outcome
	}{
		"calls":         {program(start, again(ret(num(7)), step(api.StepCall, 0, v(0), v(2)), op(api.OpAdd, v(3), num(1)))), done("", "100007")},
		"known calls":   {program(start, again(ret(num(7)), step(api.StepKnown, 1, v(0), v(2)), op(api.OpAdd, v(3), num(1)))), done("", "100007")},
		"a raise":       {program(start, again(raise(num(foo)), step(api.StepCall, 0, v(0), v(2)))), done("", "raise Foo")},
		"what is stuck": {program(start, again(tail(num(1), num(1)), step(api.StepCall, 0, v(0), v(2)))), stuck("")},
		"tail calls":    {program(start, when(v(1), let(2, op(api.OpSub, v(1), num(1)), tail(v(0), v(2))), ret(num(8)))), done("", "8")},
		"a catch":       {capturing(program(caught, again(raise(num(foo)), step(api.StepCall, 0, v(0), v(2))), thunk, ret(v(1))), 0, 0, 1), done("", "2")},
		"tries":         {program(start, again(raise(num(foo)), step(api.StepClosure, 2), step(api.StepCall, 0, v(0), v(2))), one), done("", "raise Foo")},
	} {
		if got := anf.Run(c.p, api.TyInt, "", 1000000); got != c.want {
			t.Errorf("%s: %v, not %v", what, got, c.want)
		}
	}
}

// TestP13_1_Greatest: programs at the limits run through.
func TestP13_1_Greatest(t *testing.T) {
	atoms := slices.Repeat([]api.Atom{num(7)}, 65532)
	var xs []int
	for i := range atoms {
		xs = append(xs, 1<<20-i)
	}
	sum := chain(32766, func(i int) api.Step { return op(api.OpNeg, v(int64(i+1))) })
	last := &sum
	for last.Kind == api.AnfLet {
		last = &last.Kids[0]
	}
	*last = ret(v(32767))
	sum = let(1<<20, step(api.StepClosure, 0), sum)
	deep := deepJoins(32767)
	for what, c := range map[string]struct {
		b    api.Anf
		want string
	}{
		"a jump":  {join(1, xs, ret(v(1<<20-65531)), jump(1, atoms...)), "7"},
		"steps":   {sum, "0"},
		"joins":   {deep, "1"},
		"closure": {chain(32767, func(int) api.Step { return step(api.StepClosure, 0) }), "1"},
	} {
		if got := anf.Run(program(c.b), api.TyInt, "", 1<<62); got != done("", c.want) {
			t.Errorf("%s: %v", what, got)
		}
	}
	// Closures of functions that capture the most.
	var l []api.Step
	for range 14 {
		l = append(l, step(api.StepClosure, 1, slices.Repeat([]api.Atom{num(5)}, 4096)...))
	}
	l = append(l, step(api.StepCall, 0, v(15), num(1)))
	p := capturing(program(lets(2, l, ret(v(16))), let(2, step(api.StepCapture, 4095), ret(v(2)))), 0, 4096)
	if got := anf.Run(p, api.TyInt, "", 99); got != done("", "5") {
		t.Errorf("%v", got)
	}
}
