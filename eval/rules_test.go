package eval_test

import (
	"fmt"
	"math/rand"
	"runtime/debug"
	"slices"
	"strings"
	"sync"
	"testing"
	"unsafe"

	"marquetry/api"
	"marquetry/eval"
)

// TestP1_Calls: calls of the program may be deeper than Go's own could be.
func TestP1_Calls(t *testing.T) {
	defer debug.SetMaxStack(debug.SetMaxStack(1 << 20))
	const fuel = 2000000
	for src, want := range map[string]api.Outcome{
		"let rec f = fun x -> if x < 1 then 0 else 1 + f (x - 1) in f 100000":                                                            done("", "100000"),
		"let rec f = fun x -> if x < 1 then 0 else (let y = f (x - 1) in y + 1) in f 100000":                                             done("", "100000"),
		"let rec f = fun x -> if x < 1 then raise A else 1 + f (x - 1) in f 100000":                                                      done("", "raise A"),
		"let rec f = fun x -> if x < 1 then raise A else 1 + f (x - 1) in try f 100000 with A -> 5 end":                                  done("", "5"),
		"let rec f = fun x -> if x < 1 then raise A else try f (x - 1) with B -> 5 end in try f 100000 with A -> 6 end":                  done("", "6"),
		"let rec f = fun x -> if x < 1 then 0 else 1 + (try f (x - 1) with A -> 5 end) in f 100000":                                      done("", "100000"),
		"let rec f = fun x -> if x < 1 then 1 2 else 1 + f (x - 1) in f 100000":                                                          stuck(""),
		"let rec f = fun x -> if x < 1 then raise A else (match 1 + f (x - 1) with 0 -> 1 | y -> y end) in try f 100000 with A -> 5 end": done("", "5"),
		"let rec f = fun x -> 1 + f x in f 0":                                                                                            spent(""),
		"let rec f = fun x -> f (f x) in f 0":                                                                                            spent(""),
		"let rec f = fun x -> try f x with A -> 1 end in f 0":                                                                            spent(""),
		"let rec f = fun x -> f x in putc 65; f 0":                                                                                       spent("A"),
		"let rec f = fun x -> #A (f x) in f 0":                                                                                           spent(""),
		"let rec f = fun x -> {a = x, b = f {a = x, b = x}} in f {}":                                                                     spent(""),
		"let f = fun x -> x x in f f":                                                                                                    spent(""),
		"let rec f = fun x -> f (fun u -> x u) in f (fun u -> u)":                                                                        spent(""),
		"let rec f = fun x -> if x.n < 1 then x.l else f {n = x.n - 1, l = #A x.l} in f {n = 100000, l = ()}":                            done("", "<tag>"),
		"let rec f = fun n -> if n < 1 then (fun u -> u) else (let g = f (n - 1) in fun u -> 1 + g u) in f 100000 5":                     done("", "100005"),
		"let rec f = fun n -> fun r -> if n < 1 then r else f (n - 1) (ref r) in f 100000 (ref 0)":                                       done("", "<ref>"),
		"let rec f = fun n -> if n < 1 then () else (putc n; f (n - 1)) in f 100000; 1":                                                  {Kind: api.Done, Result: "1"},
		"let r = ref (fun x -> x) in r := (fun x -> if x < 1 then 0 else 1 + (!r) (x - 1)); (!r) 100000":                                 done("", "100000"),
		"let rec f = fun n -> if n < 1 then 0 else (match {a = n, b = f (n - 1)} with {b = x} -> x + 1 end) in f 100000":                 done("", "100000"),
	} {
		if strings.Contains(src, "putc n") {
			var b strings.Builder
			for i := range 100000 {
				b.WriteByte(byte(100000 - i))
			}
			want.Out = b.String()
		}
		comes(t, src, "", fuel, want)
	}
}

// nested returns a term within which another one is so deep.
func nested(depth int, t api.Term, wrap func(i int, t api.Term) api.Term) api.Term {
	for i := range depth {
		t = wrap(i, t)
	}
	return t
}

// TestP1_Greatest: terms at the limits, and beyond them.
func TestP1_Greatest(t *testing.T) {
	unit := api.Term{Kind: api.TUnit}
	use := func(v int) api.Term { return api.Term{Kind: api.TVar, V: v} }
	tag := func(_ int, t api.Term) api.Term { return api.Term{Kind: api.TTag, S: "A", Args: []api.Term{t}} }
	let := func(i int, t api.Term) api.Term {
		return api.Term{Kind: api.TLet, V: i, Args: []api.Term{number(int64(i)), t}}
	}
	wide := func(n int, body api.Term) api.Term {
		r := api.Term{Kind: api.TRecord}
		p := api.TPat{Kind: api.PRecord}
		for i := range n {
			l := fmt.Sprint("l", i)
			r.Labels, r.Args = append(r.Labels, l), append(r.Args, number(int64(i)))
			p.Labels, p.Args = append(p.Labels, l), append(p.Args, api.TPat{Kind: api.PVar, V: n - i})
		}
		return api.Term{Kind: api.TMatch, Args: []api.Term{r}, Cases: []api.Case{{P: p, Body: body}}}
	}
	all := api.Term{Kind: api.TRecord}
	for i := range 5000 {
		all.Labels, all.Args = append(all.Labels, fmt.Sprint(i)), append(all.Args, use(i+1))
	}
	deepPat := api.TPat{Kind: api.PVar, V: 5}
	for range 598 {
		deepPat = api.TPat{Kind: api.PTag, S: "A", Args: []api.TPat{deepPat}}
	}
	many := api.Term{Kind: api.TMatch, Args: []api.Term{number(5000)}}
	for i := range 5001 {
		many.Cases = append(many.Cases, api.Case{P: api.TPat{Kind: api.PInt, N: int64(i)}, Body: number(int64(-i))})
	}
	for i, c := range []struct {
		x    api.Term
		want api.Outcome
	}{
		{nested(599, unit, tag), done("", "<tag>")},
		{nested(600, unit, tag), stuck("")},
		{nested(599, use(0), let), done("", "0")},
		{nested(599, use(598), let), done("", "598")},
		{nested(600, use(0), let), stuck("")},
		{wide(8000, use(1)), done("", "7999")},
		{wide(8000, use(8000)), done("", "0")},
		{wide(5000, all), done("", "<record>")},
		{wide(5000, api.Term{Kind: api.TField, S: "7", Args: []api.Term{all}}), done("", "4992")},
		{wide(8192, use(1)), stuck("")},
		{many, done("", "-5000")},
		{api.Term{Kind: api.TMatch, Args: []api.Term{nested(598, unit, tag)}, Cases: []api.Case{{P: deepPat, Body: use(5)}}}, done("", "()")},
		{api.Term{Kind: api.TExn, S: strings.Repeat("A", 1<<20)}, done("", strings.Repeat("A", 1<<20))},
		{api.Term{Kind: api.TRaise, Args: []api.Term{{Kind: api.TExn, S: strings.Repeat("A", 1<<20)}}}, done("", "raise "+strings.Repeat("A", 1<<20))},
	} {
		if got := eval.Run(c.x, "", 1<<62); got != c.want {
			t.Errorf("%d: %.200q, want %.200q", i, fmt.Sprint(got), fmt.Sprint(c.want))
		}
	}
	loop := tag(0, unit)
	loop.Args[0] = loop
	if got := eval.Run(loop, "", 1<<62); got != stuck("") {
		t.Errorf("what contains itself: %v", got)
	}
}

// TestP1_Input: a long input is read through, and one that nothing reads changes nothing.
func TestP1_Input(t *testing.T) {
	in := strings.Repeat("\x00ab\xff", 1<<15)
	comes(t, "let rec f = fun n -> let c = getc () in if c < 0 then n else f (n + c) in f 0", in, 100000000, done("", fmt.Sprint((97+98+255)<<15)))
	comes(t, "1 + 2", in, 3, done("", "3"))
}

// TestP1_OwnMemory: the texts of an outcome are none of the term's, nor the input.
func TestP1_OwnMemory(t *testing.T) {
	long := strings.Repeat("A", 100)
	exn := api.Term{Kind: api.TExn, S: long}
	echo := read(t, "let rec f = fun u -> let c = getc () in if c < 0 then raise A else (putc c; f ()) in f ()")
	echo.Args[1] = api.Term{Kind: api.TTry, V: 99, Args: []api.Term{echo.Args[1], exn}}
	for i, x := range []api.Term{exn, {Kind: api.TRaise, Args: []api.Term{exn}}, {Kind: api.TString, S: long}, echo} {
		o := eval.Run(x, long, plenty)
		if i == 3 && (o.Out != long || o.Result != long) || o.Kind != api.Done || !strings.Contains(o.Result, long) {
			t.Errorf("%d: %v", i, o)
		}
		again := eval.Run(x, long, plenty)
		seen := map[*byte]bool{unsafe.StringData(long): true}
		for _, s := range []string{o.Out, o.Result, again.Out, again.Result} {
			if s != "" && seen[unsafe.StringData(s)] {
				t.Errorf("%d: shared memory", i)
			}
			seen[unsafe.StringData(s)] = true
		}
	}
}

// TestP1_Rules: no term is changed by its run, and neither earlier runs nor others at the same time change an outcome.
func TestP1_Rules(t *testing.T) {
	var terms []api.Term
	for _, src := range texts {
		terms = append(terms, read(t, src))
	}
	run := func() []api.Outcome {
		m := &maker{Rand: rand.New(rand.NewSource(1))}
		var l []api.Outcome
		for i := range 1000 {
			x := random(m, i)
			before := fmt.Sprintf("%+v", x)
			o := eval.Run(x, "AB", 500)
			if fmt.Sprintf("%+v", x) != before {
				t.Errorf("%s: changed", before)
			}
			if o.Kind != api.Done && o.Result != "" || o.Kind == api.Done && o.Result == "" || o.Kind == api.Exhausted {
				t.Errorf("%+v: %+v", x, o)
			}
			l = append(l, o)
			l = append(l, eval.Run(terms[i%len(terms)], "AB", int64(i)))
		}
		return l
	}
	first := run()
	kinds := map[int]int{}
	for _, o := range first {
		kinds[o.Kind]++
	}
	if kinds[api.Done] == 0 || kinds[api.Fuel] == 0 || kinds[api.Stuck] == 0 {
		t.Errorf("%v", kinds)
	}
	var wait sync.WaitGroup
	for range 4 {
		wait.Go(func() {
			if again := run(); !slices.Equal(again, first) {
				t.Error("another outcome")
			}
		})
	}
	wait.Wait()
}

// TestP1_SharedTerm: several runs of the same term at the same time.
func TestP1_SharedTerm(t *testing.T) {
	x := read(t, "let r = ref 0 in let a = array 3 0 in let rec f = fun n -> if n = 0 then get a 1 + !r else (r := !r + n; set a 1 (n + get a 1); putc n; f (n - 1)) in f 200")
	want := eval.Run(x, "", plenty)
	if want.Result != "40200" || len(want.Out) != 200 {
		t.Errorf("%v", want)
	}
	var wait sync.WaitGroup
	for range 8 {
		wait.Go(func() {
			for range 20 {
				if got := eval.Run(x, "", plenty); got != want {
					t.Errorf("%v", got)
				}
			}
		})
	}
	wait.Wait()
}
