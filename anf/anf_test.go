package anf_test

import (
	"fmt"
	"strings"
	"testing"

	"marquetry/anf"
	"marquetry/api"
	"marquetry/infer"
	"marquetry/parse"
	"marquetry/resolve"
)

const plenty = 1 << 40 // fuel

func done(out, result string) api.Outcome {
	return api.Outcome{Kind: api.Done, Out: out, Result: result}
}

func stuck(out string) api.Outcome { return api.Outcome{Kind: api.Stuck, Out: out} }

func spent(out string) api.Outcome { return api.Outcome{Kind: api.Fuel, Out: out} }

// Atoms.
func v(n int64) api.Atom   { return api.Atom{Kind: api.AtomVar, N: n} }
func num(n int64) api.Atom { return api.Atom{Kind: api.AtomNum, N: n} }
func txt(n int64) api.Atom { return api.Atom{Kind: api.AtomText, N: n} }

// step returns a Step without Ns, op that of an operation.
func step(kind int, n int64, l ...api.Atom) api.Step { return api.Step{Kind: kind, N: n, A: l} }

func op(n int64, l ...api.Atom) api.Step { return step(api.StepOp, n, l...) }

func record(ns []int64, l ...api.Atom) api.Step {
	return api.Step{Kind: api.StepRecord, Ns: ns, A: l}
}

func let(x int, r api.Step, kid api.Anf) api.Anf {
	return api.Anf{Kind: api.AnfLet, X: x, R: r, Kids: []api.Anf{kid}}
}

func leave(kind int, l ...api.Atom) api.Anf { return api.Anf{Kind: kind, A: l} }

func ret(a api.Atom) api.Anf { return leave(api.AnfRet, a) }

func raise(a api.Atom) api.Anf { return leave(api.AnfRaise, a) }

func tail(f, x api.Atom) api.Anf { return leave(api.AnfTail, f, x) }

func when(a api.Atom, kids ...api.Anf) api.Anf {
	return api.Anf{Kind: api.AnfIf, A: []api.Atom{a}, Kids: kids}
}

func choose(a api.Atom, ns []int64, kids ...api.Anf) api.Anf {
	return api.Anf{Kind: api.AnfSwitch, A: []api.Atom{a}, Ns: ns, Kids: kids}
}

func join(n int, xs []int, body, from api.Anf) api.Anf {
	return api.Anf{Kind: api.AnfJoin, N: n, Xs: xs, Kids: []api.Anf{body, from}}
}

func jump(n int, l ...api.Atom) api.Anf { return api.Anf{Kind: api.AnfJump, N: n, A: l} }

// lets returns steps one after the other, whose results are the variables from x on.
func lets(x int, l []api.Step, last api.Anf) api.Anf {
	for i := len(l) - 1; i >= 0; i-- {
		last = let(x+i, l[i], last)
	}
	return last
}

// say writes a byte; what comes of it is variable x.
func say(x int, c int64, kid api.Anf) api.Anf { return let(x, op(api.OpPutc, num(c)), kid) }

// program returns a program with some names. A function of it captures nothing, unless that is stated.
func program(bodies ...api.Anf) api.Prog {
	p := api.Prog{Labels: []string{"a", "b", "c"}, Tags: []string{"A", "B"}, Exns: []string{"Bounds", "Divide", "Foo", "Match", "R", "Size"}, Texts: []string{"ab", "", "ab", "x"}}
	for _, b := range bodies {
		p.Funcs = append(p.Funcs, api.Func{Body: b})
	}
	return p
}

// capturing states how many values the functions capture.
func capturing(p api.Prog, caps ...int) api.Prog {
	for i, n := range caps {
		p.Funcs[i].Caps = n
	}
	return p
}

// foo is the number of an exception of program.
const foo = 2

// term returns the term of a text.
func term(t *testing.T, src string) api.Term {
	t.Helper()
	x, e, at := parse.Parse(src)
	if e != api.OK {
		t.Fatalf("%s: %d at %d", src, e, at)
	}
	y, e, at := resolve.Resolve(x)
	if e != api.OK {
		t.Fatalf("%s: %d at %d", src, e, at)
	}
	return y
}

// composed returns the program of a term.
func composed(t *testing.T, x api.Term) api.Prog {
	t.Helper()
	p, e := anf.Of(x)
	if e != api.OK || !anf.May(p) {
		t.Fatalf("%.1000s: %d", fmt.Sprintf("%+v", x), e)
	}
	return p
}

// typed returns the kind of a term's type.
func typed(t *testing.T, x api.Term) int {
	t.Helper()
	y, e, at := infer.Infer(x)
	if e != api.OK {
		t.Fatalf("%.1000s: %d at %d", fmt.Sprintf("%+v", x), e, at)
	}
	return y.Kind
}

// TestP13_Examples: those of the chapter.
func TestP13_Examples(t *testing.T) {
	for src, want := range map[string]api.Outcome{
		"let f = fun x -> x + 1 in f (f 3)":              done("", "5"),
		"match #B 2 with #A x -> x | #B y -> y * 10 end": done("", "20"),
		"try 1 / 0 with Divide -> putc 66; 7 end":        done("B", "7"),
	} {
		if got := anf.Run(composed(t, term(t, src)), api.TyInt, "", 999); got != want {
			t.Errorf("%s: %v", src, got)
		}
	}
}

// TestP13_Flow: what chapter 14 says of the programs of two texts: which functions there are, and how they are called.
func TestP13_Flow(t *testing.T) {
	p := composed(t, term(t, "let f = fun x -> x in f 1"))
	if len(p.Funcs) != 2 || fmt.Sprint(calls(p)) != fmt.Sprint([][]int{{-api.AnfTail}, nil}) {
		t.Errorf("%v", calls(p))
	}
	p = composed(t, term(t, "(if getc () < 0 then fun x -> x else fun x -> 1) 2"))
	if len(p.Funcs) != 3 || fmt.Sprint(calls(p)) != fmt.Sprint([][]int{{-api.AnfTail}, nil, nil}) {
		t.Errorf("%v", calls(p))
	}
	p = composed(t, term(t, "let f = fun x -> x + 1 in f (f 3)"))
	if got := anf.Run(p, api.TyInt, "", 99); got != done("", "5") {
		t.Errorf("%v", got)
	}
}

// calls returns, for each function, the kinds of its steps that call, and of its AnfTails, below 0.
func calls(p api.Prog) [][]int {
	var l [][]int
	for _, f := range p.Funcs {
		var m []int
		each(f.Body, func(a api.Anf) {
			switch {
			case a.Kind == api.AnfTail:
				m = append(m, -a.Kind)
			case a.R.Kind == api.StepCall || a.R.Kind == api.StepKnown || a.R.Kind == api.StepTry:
				m = append(m, a.R.Kind)
			}
		})
		l = append(l, m)
	}
	return l
}

// each does something with all parts of an Anf.
func each(a api.Anf, do func(api.Anf)) {
	do(a)
	for _, k := range a.Kids {
		each(k, do)
	}
}

// TestP13_2_Tail: a call whose value is that of its function is an AnfTail, wherever it stands; any other one is not.
func TestP13_2_Tail(t *testing.T) {
	for src, want := range map[string]string{
		"fun f -> f 1":                                               "t",
		"fun f -> f 1 + 1":                                           "c",
		"fun f -> f (f 1)":                                           "ct",
		"fun f -> let x = f 1 in f x":                                "ct",
		"fun f -> f 1; f 2":                                          "ct",
		"fun f -> let rec g = fun x -> g x in f g":                   "tt",
		"fun f -> if f 1 then f 2 else f 3":                          "ctt",
		"fun f -> (if f 1 then f 2 else f 3) + 1":                    "ccc",
		"fun f -> if f 1 then (if f 2 then f 3 else f 4) else f 5":   "ccttt",
		"fun f -> match f 1 with 1 -> f 2 | 2 -> f 3 | _ -> f 4 end": "cttt",
		"fun f -> 1 + (match f 1 with 1 -> f 2 | _ -> f 3 end)":      "ccc",
		"fun f -> match f 1 with {a = 1, b = 1} -> f 2 | {b = 2} -> f 3 | _ -> f 4 end": "cttt",
		"fun f -> match f 1 with x -> f x end":                                          "ct",
		"fun f -> f 1 && f 2":                                                           "ct",
		"fun f -> f 1 || f 2":                                                           "ct",
		"fun f -> if f 1 then raise A else f 2":                                         "ct",
		"fun f -> raise (f 1)":                                                          "c",
		"fun f -> {a = f 1}":                                                            "c",
		"fun f -> putc (f 1)":                                                           "c",
	} {
		got := ""
		for _, l := range calls(composed(t, term(t, src))) {
			for _, k := range l {
				got += map[int]string{api.StepCall: "c", -api.AnfTail: "t"}[k]
			}
		}
		// The order in which a program has its parts is free.
		if strings.Count(got, "c") != strings.Count(want, "c") || strings.Count(got, "t") != strings.Count(want, "t") {
			t.Errorf("%s: %s, not %s", src, got, want)
		}
	}
}

// TestP13_2_Fuel: small programs need little fuel.
func TestP13_2_Fuel(t *testing.T) {
	for src, most := range map[string]int64{
		"1":                                 1,
		"fun x -> x":                        2,
		"let x = 1 in let y = x in y":       1,
		"let f = fun x -> x + 1 in f (f 3)": 7,
		"let x = 1 in (fun y -> x) 2":       3,
		"let x = 1 + 1 in (fun y -> x) 2":   5,
		"if 1 < 2 then 3 else 4":            3,
		"1 + (if 1 < 2 then 3 else 4)":      6,
		"1 + (if true then (if true then 3 else 4) else 5)":                                      6,
		"if (if true then false else true) then 3 else 4":                                        5,
		"1 + (match {a = 1} with {a = x} -> x end)":                                              4,
		"1 + (match 3 with 3 -> 4 end)":                                                          3,
		"1 + (match 3 with 3 -> 4 | _ -> 5 end)":                                                 5,
		"match 3 with x -> x end":                                                                1,
		"match #B 5 with #A x -> 0 | #B x -> x end":                                              5,
		"match {a = 1, b = 2} with {a = 2, b = 3} -> 0 | {a = 1, b = 3} -> 1 | {b = 2} -> 4 end": 8,
		"try 1 / 0 with Divide -> 7 end":                                                         7,
		"let rec f = fun x -> if x < 1 then 0 else x + f (x - 1) in f 10":                        65,
	} {
		p := composed(t, term(t, src))
		if got := anf.Run(p, api.TyInt, "", most); got.Kind != api.Done {
			t.Errorf("%s: %v", src, got)
		}
	}
}
