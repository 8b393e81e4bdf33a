package anf_test

import (
	"fmt"
	"strings"
	"testing"

	"marquetry/anf"
	"marquetry/api"
	"marquetry/eval"
	"marquetry/infer"
	"marquetry/resolve"
)

// cost returns what comes of a term, and with how little fuel that is so.
func cost(x api.Term, input string, most int64) (api.Outcome, int64) {
	o := eval.Run(x, input, most)
	if o.Kind == api.Fuel {
		return o, most
	}
	least := int64(0) // with so much it is not
	for least+1 < most {
		if mid := (least + most) / 2; eval.Run(x, input, mid) == o {
			most = mid
		} else {
			least = mid
		}
	}
	return o, most
}

// means fails if the program of a term that has a type has another outcome than the term, with the fuel that P13.3 states. It
// returns the outcome.
func means(t *testing.T, x api.Term, input string, most int64) api.Outcome {
	t.Helper()
	kind, p := typed(t, x), composed(t, x)
	want, n := cost(x, input, most)
	switch want.Kind {
	case api.Stuck:
		t.Fatalf("%+v: stuck", x)
	case api.Done:
		fuel := 8 * (n + 1) * (int64(parts(x)) + 8)
		if got := anf.Run(p, kind, input, fuel); got != want {
			t.Fatalf("%.3000s: %.200q, not %.200q, %d fuel for %d", fmt.Sprintf("%+v", x), fmt.Sprint(got), fmt.Sprint(want), fuel, n)
		}
	}
	return want
}

// agrees fails if what a term writes with some fuel is not a prefix of what its program writes with some, or the other way round.
func agrees(t *testing.T, m *maker, x api.Term, p api.Prog, input string) {
	t.Helper()
	most := pick[int64](m, 30, 300, 3000)
	for range 4 {
		a, b := eval.Run(x, input, m.Int63n(most)), anf.Run(p, m.Intn(12), input, m.Int63n(most))
		if !strings.HasPrefix(a.Out, b.Out) && !strings.HasPrefix(b.Out, a.Out) {
			t.Fatalf("%.3000s: %.200q and %.200q", fmt.Sprintf("%+v", x), fmt.Sprint(a), fmt.Sprint(b))
		}
	}
}

// TestP13_3_Texts: texts, each with its outcome.
func TestP13_3_Texts(t *testing.T) {
	for src, want := range map[string]api.Outcome{
		"1":                           done("", "1"),
		"true":                        done("", "true"),
		"()":                          done("", "()"),
		"Foo":                         done("", "Foo"),
		"Bounds":                      done("", "Bounds"),
		`"a"`:                         done("", `"a"`),
		"fun x -> x":                  done("", "<fun>"),
		"{a = 1}":                     done("", "<record>"),
		"{}":                          done("", "<record>"),
		"#A 1":                        done("", "<tag>"),
		"ref 1":                       done("", "<ref>"),
		"array 1 2":                   done("", "<array>"),
		"raise Foo":                   done("", "raise Foo"),
		"1 / 0":                       done("", "raise Divide"),
		"(putc 65; 1) + (putc 66; 2)": done("AB", "3"),
		"(putc 65; 1) + (if true then (putc 66; 2) else 3)":                                                              done("AB", "3"),
		"putc (putc 65; 66); putc (if getc () = 89 then 67 else 68)":                                                     done("ABC", "()"),
		"getc () * 65536 + getc () * 256 + getc ()":                                                                      done("", "5855835"),
		"let f = putc 65; fun x -> (putc x; x) in f 66 + f 67":                                                           done("ABC", "133"),
		"(putc 65; fun x -> putc x) (putc 66; 67)":                                                                       done("ABC", "()"),
		"{b = putc 65; 1, a = putc 66; 2}.b":                                                                             done("AB", "1"),
		"{(putc 65; {a = 1}) with a = putc 66; 2}.a":                                                                     done("AB", "2"),
		"let r = {a = 1, b = true} in {r with a = \"x\"}.a":                                                              done("", `"x"`),
		"let r = {a = 1} in let s = {r with b = 5} in s.a + s.b + {s with a = 10}.a":                                     done("", "16"),
		"let a = array 3 0 in set a 1 5; get a 0 + get a 1 * 10 + len a * 100":                                           done("", "350"),
		"let r = ref 1 in let s = r in s := 7; !r":                                                                       done("", "7"),
		"raise (putc 65; Foo)":                                                                                           done("A", "raise Foo"),
		"(raise Foo) + (putc 65; 1)":                                                                                     done("", "raise Foo"),
		"(if raise Foo then putc 65 else putc 66); putc 67":                                                              done("", "raise Foo"),
		"try raise Foo with Foo -> 1 end":                                                                                done("", "1"),
		"try (try raise A with B -> 1 end) with A -> 2 end":                                                              done("", "2"),
		"try (try raise A with A -> raise B end) with A -> 2 | B -> 3 end":                                               done("", "3"),
		"try raise A with B -> 1 end":                                                                                    done("", "raise A"),
		"try raise A with x -> (try raise x with A -> putc 65; 7 end) end":                                               done("A", "7"),
		"let f = fun x -> raise x in try f Foo with Foo -> 5 end":                                                        done("", "5"),
		"(try 1 with A -> 2 end) + (try raise A with A -> 20 end)":                                                       done("", "21"),
		"let x = 5 in try (let y = 6 in raise A) with A -> x end":                                                        done("", "5"),
		"let f = fun x -> try 10 / x with Divide -> 0 - x end in f 0 + f 2":                                              done("", "5"),
		"try get (array 1 1) 1 with Bounds -> 5 end":                                                                     done("", "5"),
		"try byte \"\" 0 with Bounds -> 5 end":                                                                           done("", "5"),
		"try len (array 257 1) with Size -> 5 end":                                                                       done("", "5"),
		"true && false || true":                                                                                          done("", "true"),
		"(putc 65; false) && (putc 66; true)":                                                                            done("A", "false"),
		"(putc 65; true) || (putc 66; true)":                                                                             done("A", "true"),
		"not (1 < 2)":                                                                                                    done("", "false"),
		"let id = fun x -> x in if id true then id 5 else 6":                                                             done("", "5"),
		"let k = fun x -> fun y -> fun z -> x * 100 + y * 10 + z in k 1 2 3":                                             done("", "123"),
		"let x = 1 in let y = getc () in (fun z -> fun w -> x + y + z + w) 3 4":                                          done("", "97"),
		"let rec f = fun x -> if x < 1 then 0 else x + f (x - 1) in f 10":                                                done("", "55"),
		"let rec f = fun x -> fun y -> if x = 0 then y else f (x - 1) (y + 1) in f 3 4":                                  done("", "7"),
		"let rec f = fun x -> (fun y -> if y < 1 then 0 else 1 + f (x - 1)) x in f 6":                                    done("", "6"),
		"let rec f = fun u -> let c = getc () in if c < 0 then () else (putc (c + 1); f ()) in f ()":                     done("Z[\\", "()"),
		"match 5 with 1 -> 2 end":                                                                                        done("", "raise Match"),
		"match 5 with 1 -> 2 | x -> x + 1 end":                                                                           done("", "6"),
		"match true with false -> 1 | true -> 2 end":                                                                     done("", "2"),
		"match () with () -> 3 end":                                                                                      done("", "3"),
		"match Foo with Bar -> 1 | Foo -> 2 end":                                                                         done("", "2"),
		"match \"b\" with \"a\" -> 1 | \"b\" -> 2 | _ -> 3 end":                                                          done("", "2"),
		"match \"c\" with \"a\" -> 1 | \"b\" -> 2 end":                                                                   done("", "raise Match"),
		"match #B {a = 1} with #A x -> x | #B {a = y} -> y + 1 end":                                                      done("", "2"),
		"match {a = #A 1, b = 2} with {a = #B _} -> 0 | {a = #A x, b = y} -> x * 10 + y end":                             done("", "12"),
		"match {a = 1, b = 2} with {a = 2, b = x} -> x | {b = 3} -> 7 | {a = x, b = y} -> x * 100 + y end":               done("", "102"),
		"match (putc 65; {a = 1, b = 2}) with {a = 2} -> putc 66 | {b = 3} -> putc 67 | _ -> putc 68 end; putc 69":       done("ADE", "()"),
		"1 + (match 3 with 1 -> 2 | 3 -> 4 | _ -> 5 end) * 2":                                                            done("", "9"),
		"1 + (match 3 with 1 -> 2 end)":                                                                                  done("", "raise Match"),
		"try 1 + (match 3 with 1 -> 2 end) with Match -> 8 end":                                                          done("", "8"),
		"match {a = #A 1} with {a = x} -> (match x with #A y -> y end) end":                                              done("", "1"),
		"match #A #B #C 5 with #A #B #D x -> x | #A #B #C 4 -> 1 | #A x -> (match x with #B #C y -> y | _ -> 0 end) end": done("", "5"),
		"let x = match {a = 1, b = \"z\"} with {a = 1, b = \"y\"} -> 1 | {a = 1} -> 2 | _ -> 3 end in x + 1":             done("", "3"),
	} {
		src = strings.ReplaceAll(src, "#A #B #C 5", "#A (#B (#C 5))")
		src = strings.ReplaceAll(src, "#A #B #D x", "#A (#B (#D x))")
		src = strings.ReplaceAll(src, "#A #B #C 4", "#A (#B (#C 4))")
		src = strings.ReplaceAll(src, "#B #C y", "#B (#C y)")
		x := term(t, src)
		if got := means(t, x, "YZ[", 10000); got != want {
			t.Errorf("%s: %q", src, fmt.Sprint(got))
		}
		if got := anf.Run(composed(t, x), typed(t, x), "YZ[", 999); got != want {
			t.Errorf("%s with 999 fuel: %q", src, fmt.Sprint(got))
		}
	}
}

// tries runs random terms, and returns how often there were which kinds of outcomes.
func tries(t *testing.T, m *termMaker, count int, next func() api.Term) map[int]int {
	tally := map[int]int{}
	for range count {
		x := next()
		if !resolve.May(x) {
			t.Fatalf("%+v", x)
		}
		tally[means(t, x, "A\xffz", 2000).Kind]++
		agrees(t, m.maker, x, composed(t, x), "A\xffz")
	}
	return tally
}

// TestP13_3_Random: random terms that have a type.
func TestP13_3_Random(t *testing.T) {
	t.Parallel()
	m := &termMaker{maker: newMaker(1)}
	if tally := tries(t, m, 8000, func() api.Term { return m.random(2 + m.Intn(4)) }); tally[api.Done] < 7000 {
		t.Errorf("%v", tally)
	}
}

// TestP13_3_Deep: matches that go deep into what is matched.
func TestP13_3_Deep(t *testing.T) {
	t.Parallel()
	m := &termMaker{maker: newMaker(2), deep: true}
	next := func() api.Term {
		for {
			// Deeper ones might have types that are too large.
			if x := m.match(m.shape(1), m.shape(3), 2); parts(x) < 600 {
				return x
			}
		}
	}
	if tally := tries(t, m, 1200, next); tally[api.Done] < 1000 {
		t.Errorf("%v", tally)
	}
}

// TestP13_3_Crowded: functions that use many variables, in small terms and in large ones.
func TestP13_3_Crowded(t *testing.T) {
	t.Parallel()
	m := &termMaker{maker: newMaker(3)}
	next := func() api.Term {
		for {
			if x := m.crowded(10+m.Intn(60), 4); parts(x) < 4000 && resolve.May(x) {
				return x
			}
		}
	}
	if tally := tries(t, m, 600, next); tally[api.Done] < 500 {
		t.Errorf("%v", tally)
	}
}

// TestP13_3_Untyped: terms that mostly have no type: what is written agrees as far as both go.
func TestP13_3_Untyped(t *testing.T) {
	t.Parallel()
	m := &termMaker{maker: newMaker(4), wild: 80, deep: true}
	tally := map[api.Errno]int{}
	for range 8000 {
		x := m.random(2 + m.Intn(4))
		if !resolve.May(x) {
			continue
		}
		_, e, _ := infer.Infer(x)
		tally[e]++
		agrees(t, m.maker, x, composed(t, x), "A\xffz")
	}
	if tally[api.ErrType] < 2000 {
		t.Errorf("%v", tally)
	}
}
