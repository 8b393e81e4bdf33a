package eval_test

import (
	"fmt"
	"strings"
	"testing"

	"marquetry/api"
	"marquetry/eval"
	"marquetry/parse"
	"marquetry/resolve"
)

// plenty is more fuel than any text needs here.
const plenty = 100000

// read returns the term of a source.
func read(t *testing.T, src string) api.Term {
	t.Helper()
	e, errno, at := parse.Parse(src)
	if errno != api.OK {
		t.Fatalf("%s: %d at %d", src, errno, at)
	}
	x, errno, at := resolve.Resolve(e)
	if errno != api.OK {
		t.Fatalf("%s: %d at %d", src, errno, at)
	}
	return x
}

func done(out, result string) api.Outcome {
	return api.Outcome{Kind: api.Done, Out: out, Result: result}
}

func stuck(out string) api.Outcome { return api.Outcome{Kind: api.Stuck, Out: out} }

func spent(out string) api.Outcome { return api.Outcome{Kind: api.Fuel, Out: out} }

// comes fails if a source has another outcome.
func comes(t *testing.T, src, input string, fuel int64, want api.Outcome) {
	t.Helper()
	if got := eval.Run(read(t, src), input, fuel); got != want {
		t.Errorf("%s: %.200q, want %.200q", src, fmt.Sprint(got), fmt.Sprint(want))
	}
}

// come does so for many sources, all with the same input and plenty of fuel.
func come(t *testing.T, input string, wants map[string]api.Outcome) {
	t.Helper()
	for src, want := range wants {
		comes(t, src, input, plenty, want)
	}
}

// result does so for sources that write nothing and are done.
func result(t *testing.T, wants map[string]string) {
	t.Helper()
	for src, want := range wants {
		comes(t, src, "", plenty, done("", want))
	}
}

func TestExamples(t *testing.T) {
	come(t, "A", map[string]api.Outcome{
		"putc 65; 1 / 0": done("A", "raise Divide"),
		"let rec f = fun x -> if x < 1 then 0 else x + f (x - 1) in f 4": done("", "10"),
		"try raise Foo with Bar -> 1 | Foo -> getc () end":               done("", "65"),
		"{a = 1}":                 done("", "<record>"),
		`"a"`:                     done("", `"a"`),
		"match 1 with 2 -> 3 end": done("", "raise Match"),
		"1 2":                     stuck(""),
	})
}

// TestP9_1_Results: the text of each kind of values.
func TestP9_1_Results(t *testing.T) {
	long := `"` + strings.Repeat("x", 4000) + `"`
	result(t, map[string]string{
		"0":                                     "0",
		"4611686018427387903":                   "4611686018427387903",
		"- 4611686018427387903":                 "-4611686018427387903",
		"- 4611686018427387903 - 1":             "-4611686018427387904",
		`""`:                                    `""`,
		`"a\"\\\n\x00\xff\x7f~ "`:               `"a\"\\\n\x00\xff\x7f~ "`,
		long:                                    long,
		"true":                                  "true",
		"false":                                 "false",
		"()":                                    "()",
		"Foo_1":                                 "Foo_1",
		"Match":                                 "Match",
		"fun x -> 1 2":                          "<fun>",
		"let rec f = fun x -> f x in f":         "<fun>",
		"{}":                                    "<record>",
		"{a = 1, b = true}":                     "<record>",
		"{{} with a = 1}":                       "<record>",
		"#A 1":                                  "<tag>",
		"#A (#B ())":                            "<tag>",
		"ref 1":                                 "<ref>",
		"ref (ref true)":                        "<ref>",
		"array 0 1":                             "<array>",
		"array 3 (array 2 0)":                   "<array>",
		"raise Foo":                             "raise Foo",
		"raise Match":                           "raise Match",
		"let r = ref 0 in r := r; !r":           "<ref>",
		"let r = ref 0 in r := {a = r}; (!r).a": "<ref>",
		"let a = array 1 0 in set a 0 a; a":     "<array>",
		"let a = array 1 0 in set a 0 a":        "()",
	})
}

// TestP9_1_Terms: the values of each kind of terms.
func TestP9_1_Terms(t *testing.T) {
	result(t, map[string]string{
		"(fun x -> x + 1) 2":                      "3",
		"(fun x -> fun y -> x - y) 5 3":           "2",
		"(fun _ -> 1) 2":                          "1",
		"let x = 1 in let y = 2 in x - y":         "-1",
		"let x = 1 in let x = x + 1 in x":         "2",
		"let _ = 1 in 2":                          "2",
		"let x = let x = 1 in x + 1 in x * 10":    "20",
		"if true then 1 else 1 2":                 "1",
		"if false then 1 2 else 2":                "2",
		"{a = 1, b = 2}.b":                        "2",
		"{b = 1, a = 2}.b":                        "1",
		"{a = {b = 3}}.a.b":                       "3",
		"{{a = 1} with b = 2}.b":                  "2",
		"{{a = 1} with b = 2}.a":                  "1",
		"{{a = 1, b = 5} with a = true}.a":        "true",
		"{{a = 1, b = 5} with a = 2}.b":           "5",
		"{{{a = 1} with b = 2} with c = 3}.b":     "2",
		"match #A 7 with #A x -> x end":           "7",
		"match #A (#B 7) with #A x -> x end":      "<tag>",
		"match #A (#B 7) with #A (#B x) -> x end": "7",
		"1; 2":          "2",
		"true && true":  "true",
		"true && false": "false",
		"true && 5":     "5",
		"false && 1 2":  "false",
		"true || 1 2":   "true",
		"false || 5":    "5",
		"let r = {a = 1, b = 5} in let s = {r with a = 2} in r.a * 10 + s.a":                            "12",
		"let rec f = fun x -> if x < 1 then 1 else x * f (x - 1) in f 10":                               "3628800",
		"let rec f = fun x -> fun y -> if x = 0 then y else f (x - 1) (y + x) in f 4 0":                 "10",
		"let rec f = fun n -> if n = 0 then true else (fun g -> g (n - 1)) (fun m -> not (f m)) in f 7": "false",
		"let rec f = fun x -> x + 1 in let g = f in let rec f = fun x -> g (g x) in f 1":                "3",
	})
	// A new record does not have the label that only another one was given.
	come(t, "", map[string]api.Outcome{
		"let r = {a = 1} in let s = {r with b = 2} in {r with c = 3}.b": stuck(""),
		"let r = {a = 1} in let s = {r with b = 2} in r.b":              stuck(""),
	})
}

// TestP9_1_Scopes: a function sees what was bound where it was made, whoever applies it, and each application has bindings
// of its own.
func TestP9_1_Scopes(t *testing.T) {
	result(t, map[string]string{
		"let x = 1 in let f = fun y -> x + y in let x = 100 in f 5":                                                                                 "6",
		"let f = fun x -> fun y -> x * 10 + y in let g = f 1 in let h = f 2 in g 3 * 100 + h 4":                                                     "1324",
		"let x = 1 in (let x = 2 in x) * 10 + x":                                                                                                    "21",
		"let x = 1 in (fun x -> x) 2 * 10 + x":                                                                                                      "21",
		"let x = 1 in (match 2 with x -> x end) * 10 + x":                                                                                           "21",
		"let x = 1 in (match {a = 3, b = 4} with {b = x, a = y} -> x * 10 + y end) * 10 + x":                                                        "431",
		"let x = 1 in (try raise A with x -> 5 end) * 10 + x":                                                                                       "51",
		"let f = fun g -> let x = 2 in g () in let x = 1 in f (fun _ -> x)":                                                                         "1",
		"let rec f = fun x -> if x = 0 then 0 else let y = x in f (x - 1) + y * 10 in f 3":                                                          "60",
		"let count = (fun r -> fun _ -> r := !r + 1; !r) in let a = count (ref 0) in let b = count (ref 10) in a (); a (); b (); a () * 100 + b ()": "312",
		"let rec f = fun n -> if n = 0 then fun x -> x else let g = f (n - 1) in fun x -> g (x * 2 + n) in f 3 1":                                   "25",
		"(match #A 1 with #A x -> (match #A 2 with #A y -> fun _ -> x * 10 + y end) end) ()":                                                        "12",
		"let rec f = fun x -> (match x with 0 -> fun _ -> 0 | y -> let g = f (y - 1) in fun z -> g z + y + z end) in f 3 10":                        "36",
	})
}

// The operations, with the kinds of values that their operands are, a letter each; see samples.
var operations = []struct{ name, kinds string }{
	{}, {"A + B", "nn"}, {"A - B", "nn"}, {"A * B", "nn"}, {"A / B", "nn"}, {"A % B", "nn"}, {"- A", "n"}, {"A = B", "nn"}, {"A < B", "nn"}, {"not A", "b"},
	{"ref A", "*"}, {"! A", "p"}, {"A := B", "p*"}, {"array A B", "n*"}, {"get A B", "an"}, {"set A B C", "an*"}, {"len A", "a"}, {"size A", "s"}, {"byte A B", "sn"}, {"cat A B", "ss"}, {"getc A", "u"}, {"putc A", "n"},
}

// samples are values of each kind, by the kind's letter. Of the strings and arrays each has an element 1.
var samples = map[byte]string{'n': "1", 'b': "true", 's': `"st"`, 'u': "()", 'x': "Foo", 'f': "(fun x -> x)", 'r': "{a = 1}", 't': "(#A 1)", 'p': "(ref 1)", 'a': "(array 2 1)"}

// kinds returns all lists of so many kinds.
func kinds(n int) []string {
	if n == 0 {
		return []string{""}
	}
	var l []string
	for _, rest := range kinds(n - 1) {
		for k := range samples {
			l = append(l, string(k)+rest)
		}
	}
	return l
}

// fit reports whether kinds are those that are asked for.
func fit(kinds, asked string) bool {
	for i := range len(asked) {
		if asked[i] != '*' && asked[i] != kinds[i] {
			return false
		}
	}
	return true
}

// fill replaces the letters A, B and C of a text, each of which stands once in it.
func fill(text string, with ...string) string {
	pairs := []string{}
	for i, s := range with {
		pairs = append(pairs, string(rune('A'+i)), s)
	}
	return strings.NewReplacer(pairs...).Replace(text)
}

// TestP9_1_OperandKinds: each operation with operands of all kinds is stuck if and only if one of them is of another kind,
// and that is found after all of them have been evaluated.
func TestP9_1_OperandKinds(t *testing.T) {
	for op, o := range operations {
		if op == 0 {
			continue
		}
		for _, k := range kinds(len(o.kinds)) {
			var with []string
			out := ""
			for i := range len(k) {
				with = append(with, fmt.Sprint("(putc ", 97+i, "; ", samples[k[i]], ")"))
				out += string(rune('a' + i))
			}
			src := fill(o.name, with...)
			got := eval.Run(read(t, src), "", plenty)
			if want := stuck(out); !fit(k, o.kinds) && got != want {
				t.Errorf("%s: %q, want %q", src, fmt.Sprint(got), fmt.Sprint(want))
			}
			if fit(k, o.kinds) && (got.Kind != api.Done || !strings.HasPrefix(got.Out, out) || strings.HasPrefix(got.Result, "raise")) {
				t.Errorf("%s: %q", src, fmt.Sprint(got))
			}
		}
	}
}

// TestP9_1_ArgKinds does the same for the other terms that ask for values of a kind.
func TestP9_1_ArgKinds(t *testing.T) {
	for src, asked := range map[string]byte{
		"A (putc 98)": 'f', "if A then putc 98 else putc 98": 'b', "{A with b = putc 98}": 'r', "A.a; putc 98": 'r', "raise A; putc 99": 'x',
	} {
		for k, s := range samples {
			got := eval.Run(read(t, fill(src, "(putc 97; "+s+")")), "", plenty)
			want := stuck("a")
			if src[0] == 'A' && src[1] == ' ' || src[0] == '{' {
				want = stuck("ab") // The second Arg has been evaluated, too.
			}
			if k == asked {
				want = done("ab", got.Result)
			}
			if k == asked && asked == 'x' {
				want = done("a", "raise Foo")
			}
			if got != want {
				t.Errorf("%s of %s: %q, want %q", src, s, fmt.Sprint(got), fmt.Sprint(want))
			}
		}
	}
}

func TestP9_1_Numbers(t *testing.T) {
	const most, least = "4611686018427387903", "(- 4611686018427387903 - 1)"
	result(t, map[string]string{
		"2 + 3": "5", "2 - 3": "-1", "2 * 3": "6", "7 / 2": "3", "(- 7) / 2": "-3", "7 % 2": "1", "(- 7) % 2": "-1", "7 % (- 2)": "1", "- 5": "-5", "- - 5": "5", "0 / 5": "0",
		most + " + 1": "-4611686018427387904", least + " - 1": most, most + " * 2": "-2", "- " + least: "-4611686018427387904", least + " / (- 1)": "-4611686018427387904", least + " % (- 1)": "0", least + " * " + least: "0",
		"1 / 0": "raise Divide", "0 / 0": "raise Divide", "1 % 0": "raise Divide", least + " % 0": "raise Divide", "try 1 / 0 with Divide -> 5 end": "5", "try 1 % (1 - 1) with Divide -> 5 end": "5",
		"1 = 1": "true", "1 = 2": "false", "2 = 1": "false", most + " + 1 = " + least: "true", "0 = - 0": "true",
		"1 < 2": "true", "2 < 1": "false", "1 < 1": "false", least + " < " + most: "true", "(- 1) < 0": "true", "0 < (- 1)": "false",
		"not true": "false", "not false": "true", "not not true": "true", "not (1 = 2)": "true",
	})
}

// TestP9_1_References: each has an identity of its own, and is the same wherever it is.
func TestP9_1_References(t *testing.T) {
	result(t, map[string]string{
		"!(ref 5)":                                 "5",
		"ref 1 := 2":                               "()",
		"let r = ref 1 in r := 2":                  "()",
		"let r = ref 1 in r := true; !r":           "true",
		"let r = ref 1 in let s = r in s := 2; !r": "2",
		"let r = ref 1 in let s = ref 1 in s := 2; !r * 10 + !s":                         "12",
		"let r = ref 1 in let s = ref !r in s := 2; !r * 10 + !s":                        "12",
		"let r = ref 1 in (fun s -> s := 2) r; !r":                                       "2",
		"let r = ref 1 in let x = {a = r, b = r} in x.a := 2; !(x.b)":                    "2",
		"let r = ref 1 in let x = {{a = r} with b = 0} in x.a := 2; !r":                  "2",
		"let r = ref 1 in let x = #A r in (match x with #A s -> s := 2 end); !r":         "2",
		"let r = ref 1 in let a = array 3 r in get a 0 := 2; !(get a 2)":                 "2",
		"let r = ref (ref 1) in let s = !r in r := ref 5; !s * 10 + !(!r)":               "15",
		"let f = fun _ -> ref 0 in let r = f () in let s = f () in r := 1; !r * 10 + !s": "10",
		"let r = ref 1 in (try r := 2; raise A with A -> () end); !r":                    "2",
		"let r = ref 1 in let x = !r in r := 2; x":                                       "1",
	})
}

func TestP9_1_Arrays(t *testing.T) {
	result(t, map[string]string{
		"len (array 0 1)":                               "0",
		"len (array 256 1)":                             "256",
		"array 257 1":                                   "raise Size",
		"array (- 1) 1":                                 "raise Size",
		"array 4611686018427387903 1":                   "raise Size",
		"array (- 4611686018427387903 - 1) 1":           "raise Size",
		"get (array 3 7) 0":                             "7",
		"get (array 3 7) 2":                             "7",
		"get (array 256 7) 255":                         "7",
		"get (array 3 7) 3":                             "raise Bounds",
		"get (array 3 7) (- 1)":                         "raise Bounds",
		"get (array 0 7) 0":                             "raise Bounds",
		"get (array 3 7) 4294967296":                    "raise Bounds",
		"get (array 3 7) 4611686018427387903":           "raise Bounds",
		"set (array 3 7) 0 1":                           "()",
		"set (array 3 7) 2 1":                           "()",
		"set (array 3 7) 3 1":                           "raise Bounds",
		"set (array 3 7) (- 1) 1":                       "raise Bounds",
		"set (array 0 7) 0 1":                           "raise Bounds",
		"set (array 3 7) (- 4611686018427387903 - 1) 1": "raise Bounds",
		"let a = array 3 7 in set a 1 5; get a 0 * 100 + get a 1 * 10 + get a 2": "757",
		"let a = array 3 7 in set a 0 5; set a 2 true; get a 2":                  "true",
		"let a = array 3 7 in let b = a in set b 1 5; get a 1":                   "5",
		"let a = array 3 7 in let b = array 3 7 in set b 1 5; get a 1":           "7",
		"let a = array 2 (array 2 0) in set (get a 0) 1 5; get (get a 1) 1":      "5",
		"let f = fun _ -> array 1 0 in let a = f () in set (f ()) 0 5; get a 0":  "0",
		"let a = array 3 7 in try set a 3 5 with Bounds -> get a 2 end":          "7",
		"try array 257 0 with Size -> array 1 0 end":                             "<array>",
	})
}

func TestP9_1_Strings(t *testing.T) {
	double := "let rec d = fun n -> fun s -> if n = 0 then s else d (n - 1) (cat s s) in let s = d 12 \"a\" in "
	result(t, map[string]string{
		`size ""`:                       "0",
		`size "a\x00\xffb"`:             "4",
		`size "\xc3\xa9"`:               "2",
		`byte "ab" 0`:                   "97",
		`byte "ab" 1`:                   "98",
		`byte "\xff\x00" 0`:             "255",
		`byte "\xff\x00" 1`:             "0",
		`byte "ab" 2`:                   "raise Bounds",
		`byte "ab" (- 1)`:               "raise Bounds",
		`byte "" 0`:                     "raise Bounds",
		`byte "ab" 4294967296`:          "raise Bounds",
		`byte "ab" 4611686018427387903`: "raise Bounds",
		`cat "ab" "c"`:                  `"abc"`,
		`cat "" ""`:                     `""`,
		`cat "" "a"`:                    `"a"`,
		`cat "a" ""`:                    `"a"`,
		`cat "\xc3" "\xa9"`:             `"\xc3\xa9"`,
		`let a = "x" in let b = cat a "y" in cat a b`: `"xxy"`,
		double + "size s":                             "4096",
		double + `size (cat s "")`:                    "4096",
		double + `size (cat "" s)`:                    "4096",
		double + `cat s "a"`:                          "raise Size",
		double + `cat "a" s`:                          "raise Size",
		double + "cat s s":                            "raise Size",
		double + "byte s 4095":                        "97",
		double + "byte s 4096":                        "raise Bounds",
		double + `try cat s "a" with Size -> "b" end`: `"b"`,
	})
}

// TestP9_1_Bytes: what is read and what is written.
func TestP9_1_Bytes(t *testing.T) {
	come(t, "X\x00\xff\xc3", map[string]api.Outcome{
		"getc ()":                                     done("", "88"),
		"getc (); getc ()":                            done("", "0"),
		"getc (); getc (); getc ()":                   done("", "255"),
		"getc (); getc (); getc (); getc ()":          done("", "195"),
		"getc (); getc (); getc (); getc (); getc ()": done("", "-1"),
		"getc () * 1000 + getc ()":                    done("", "88000"),
		"let rec f = fun u -> let c = getc () in if c < 0 then getc () else (putc c; f ()) in f ()": done("X\x00\xff\xc3", "-1"),
		"putc 65":                          done("A", "()"),
		"putc 0":                           done("\x00", "()"),
		"putc 255":                         done("\xff", "()"),
		"putc 256":                         done("\x00", "()"),
		"putc 321":                         done("A", "()"),
		"putc (- 1)":                       done("\xff", "()"),
		"putc (- 191)":                     done("A", "()"),
		"putc 4611686018427387903":         done("\xff", "()"),
		"putc (- 4611686018427387903 - 1)": done("\x00", "()"),
		"putc 195; putc 169":               done("\xc3\xa9", "()"),
		"putc 65; raise A":                 done("A", "raise A"),
		"putc 65; 1 2; putc 66":            stuck("A"),
		"try putc 65; raise A; putc 66 with _ -> putc 67; 1 end": done("AC", "1"),
		"(try raise A with A -> getc () end) + getc ()":          done("", "88"),
		"(try getc true with _ -> 1 end)":                        stuck(""),
	})
	comes(t, "getc ()", "", plenty, done("", "-1"))
	var in, out strings.Builder
	for i := range 1 << 12 {
		in.WriteByte(byte(i * 7))
		out.WriteByte(byte(i*7 + 1))
	}
	comes(t, "let rec f = fun u -> let c = getc () in if c < 0 then u else (putc (c + 1); f (u + 1)) in f 0", in.String(), plenty, done(out.String(), "4096"))
}

// TestP9_1_Order: Args are evaluated in order, each once; what none asks for is not evaluated.
func TestP9_1_Order(t *testing.T) {
	come(t, "", map[string]api.Outcome{
		"(putc 65; fun x -> putc 67; x) (putc 66; 2)":              done("ABC", "2"),
		"let x = putc 65; 1 in putc 66; x + x":                     done("AB", "2"),
		"let rec f = fun x -> putc 66; x in putc 65; f 3":          done("AB", "3"),
		"if (putc 65; true) then (putc 66; 1) else (putc 67; 2)":   done("AB", "1"),
		"if (putc 65; false) then (putc 66; 1) else (putc 67; 2)":  done("AC", "2"),
		"{b = (putc 65; 1), a = (putc 66; 2), c = (putc 67; 3)}.a": done("ABC", "2"),
		"{(putc 65; {a = 1}) with b = (putc 66; 2)}.b":             done("AB", "2"),
		"{{a = (putc 65; 1)} with a = (putc 66; 2)}.a":             done("AB", "2"),
		"#A (putc 65; 1)": done("A", "<tag>"),
		"match (putc 65; 2) with 1 -> putc 66 | 2 -> putc 67 | 2 -> putc 68 | _ -> putc 69 end": done("AC", "()"),
		"try (putc 65; 1) with _ -> putc 66; 2 end":                                             done("A", "1"),
		"try (putc 65; raise A) with A -> putc 66; 2 end":                                       done("AB", "2"),
		"raise (putc 65; A)":                                   done("A", "raise A"),
		"(putc 65; 1) + (putc 66; 2)":                          done("AB", "3"),
		"set (putc 65; array 1 0) (putc 66; 0) (putc 67; 2)":   done("ABC", "()"),
		"(putc 65; true) && (putc 66; false)":                  done("AB", "false"),
		"(putc 65; false) && (putc 66; false)":                 done("A", "false"),
		"(putc 65; true) || (putc 66; false)":                  done("A", "true"),
		"(putc 65; false) || (putc 66; true)":                  done("AB", "true"),
		"let f = fun x -> putc 65; x in f 1 + f 2":             done("AA", "3"),
		"let r = ref 1 in !r + (r := 5; !r)":                   done("", "6"),
		"let r = ref 1 in (r := 5; !r) + !r":                   done("", "10"),
		"let r = ref 1 in {a = !r, b = (r := 2; 0), c = !r}.c": done("", "2"),
		"let a = array 1 0 in get a (set a 0 5; 0)":            done("", "5"),
	})
}

// TestP9_1_Inner: what is raised, or is stuck, within a term ends the term there and then.
func TestP9_1_Inner(t *testing.T) {
	for src, out := range map[string]string{
		"X (putc 65)": "", "(putc 65; fun x -> x) X": "A", "1 X": "", "let x = X in putc 65": "", "let x = putc 65 in X": "A", "let rec f = fun x -> X in putc 65; f 1": "A",
		"if X then putc 65 else putc 66": "", "if true then X else putc 66": "", "if false then putc 65 else X": "", "{a = X, b = putc 65}": "", "{a = putc 65, b = X, c = putc 66}": "A", "{a = putc 65, b = putc 66, c = X}": "AB",
		"{X with a = putc 65}": "", "{(putc 65; 1) with a = X}": "A", "X.a": "", "#A X": "", "match X with _ -> putc 65 end": "", "match putc 65 with _ -> X end": "A", "raise X": "",
		"X + putc 65": "", "(putc 65; ()) + X": "A", "- X": "", "set X (putc 65) (putc 66)": "", "set (putc 65) X (putc 66)": "A", "set (putc 65) (putc 66) X": "AB", "X; putc 65": "", "X && true": "", "true && X": "", "X || true": "", "false || X": "",
		"try putc 65; 1 with _ -> putc 66; 2 end; X": "A", "try raise A with A -> putc 65; X end": "A", "try 1 / 0 with Divide -> X | _ -> putc 65; 1 end": "", "try (try raise A with A -> X end) with B -> putc 65; 1 end": "",
		"(fun x -> x; X) (putc 65)": "A", "!(ref X)": "", "(fun f -> f (putc 65)) (fun u -> X; putc 66)": "A",
	} {
		comes(t, strings.ReplaceAll(src, "X", "(raise Foo)"), "", plenty, done(out, "raise Foo"))
		comes(t, strings.ReplaceAll(src, "X", "(1 2)"), "", plenty, stuck(out))
		comes(t, strings.ReplaceAll(src, "X", "(1 / 0)"), "", plenty, done(out, "raise Divide"))
		comes(t, strings.ReplaceAll(src, "X", "(let rec f = fun x -> f x in f 0)"), "", plenty, spent(out))
	}
}

func TestP9_1_Try(t *testing.T) {
	come(t, "", map[string]api.Outcome{
		"try 1 with A -> 2 end":                                                                                     done("", "1"),
		"try raise A with A -> 2 end":                                                                               done("", "2"),
		"try raise A with B -> 2 end":                                                                               done("", "raise A"),
		"try raise A with x -> x end":                                                                               done("", "A"),
		"try raise A with B -> 1 | A -> 2 | _ -> 3 end":                                                             done("", "2"),
		"try raise C with B -> 1 | A -> 2 | _ -> 3 end":                                                             done("", "3"),
		"try raise A with x -> raise x end":                                                                         done("", "raise A"),
		"try raise A with A -> raise B end":                                                                         done("", "raise B"),
		"try raise A with A -> raise B | B -> 1 end":                                                                done("", "raise B"),
		"try try raise A with B -> 1 end with A -> 2 end":                                                           done("", "2"),
		"try try raise A with A -> 1 end with A -> 2 end":                                                           done("", "1"),
		"try try raise A with A -> raise A end with A -> 2 end":                                                     done("", "2"),
		"try (try 1 with A -> 2 end); raise A with A -> 3 end":                                                      done("", "3"),
		"(try 1 with A -> 2 end); raise A":                                                                          done("", "raise A"),
		"1 + (2 * (try 3 + (raise A) with A -> 4 end))":                                                             done("", "9"),
		"{a = 1, b = (try {c = 5, d = raise A}.c with A -> 2 end)}.b":                                               done("", "2"),
		"let f = fun x -> 1 + (raise x) in 10 + (try f B with B -> 5 end)":                                          done("", "15"),
		"let rec f = fun x -> if x = 0 then raise A else 1 + f (x - 1) in try f 9 with A -> 7 end":                  done("", "7"),
		"let rec f = fun x -> if x = 0 then raise A else try f (x - 1) with A -> x * 10 end in f 9":                 done("", "10"),
		"let rec f = fun x -> if x = 0 then raise A else try f (x - 1) with A -> putc (64 + x); raise A end in f 5": done("ABCDE", "raise A"),
		"let f = try (fun x -> raise A) with A -> (fun x -> 5) end in f 1":                                          done("", "raise A"),
		"try match 1 with 2 -> 3 end with Match -> 4 end":                                                           done("", "4"),
		"match (try raise A with x -> x end) with B -> 1 | A -> 2 end":                                              done("", "2"),
		"try 1 2 with _ -> 3 end":                                                                                   stuck(""),
		"try raise 1 with _ -> 3 end":                                                                               stuck(""),
		"try raise A with 1 -> 3 end":                                                                               stuck(""),
		"try raise A with B -> 1 2 | A -> 2 2 end":                                                                  stuck(""),
	})
}

// TestP9_1_Patterns: each kind of patterns with a value of each kind. The three outcomes: it matches, it does not, it is stuck.
func TestP9_1_Patterns(t *testing.T) {
	for pat, asked := range map[string]byte{
		"1": 'n', "2": 'n', "-1": 'n', `"st"`: 's', `""`: 's', "true": 'b', "false": 'b', "()": 'u', "Foo": 'x', "Bar": 'x', "#A _": 't', "#B _": 't', "#A 1": 't', "#A 2": 't', "{}": 'r', "{a = _}": 'r', "{a = 1}": 'r', "{a = 2}": 'r', "_": '*', "x": '*',
	} {
		for k, s := range samples {
			want := stuck("")
			if asked == '*' || k == asked {
				want = done("", "6")
			}
			switch pat {
			case "1", `"st"`, "true", "()", "Foo", "#A _", "#A 1", "{}", "{a = _}", "{a = 1}", "_", "x":
				if want.Kind == api.Done {
					want.Result = "5"
				}
			}
			comes(t, "match "+s+" with "+pat+" -> 5 | _ -> 6 end", "", plenty, want)
		}
	}
}

func TestP9_1_Matching(t *testing.T) {
	come(t, "", map[string]api.Outcome{
		"match 1 with x -> x end": done("", "1"),
		"match - 4611686018427387903 with -4611686018427387903 -> 1 end": done("", "1"),
		"match 5 with -5 -> 1 | 5 -> 2 end":                              done("", "2"),
		`match "a\x00" with "a" -> 1 | "a\x00" -> 2 end`:                 done("", "2"),
		`match "ab" with "ac" -> 1 | "bb" -> 2 | "ab" -> 3 end`:          done("", "3"),
		"match true with false -> 1 | true -> 2 end":                     done("", "2"),
		"match Foo with Fo -> 1 | Foo -> 2 end":                          done("", "2"),
		"match 3 with 1 -> 1 | 2 -> 2 end":                               done("", "raise Match"),
		"match 2 with 1 -> 1 | 2 -> 2 | 2 -> 3 | _ -> 4 end":             done("", "2"),
		// The first case that matches ends it; one of another kind before it does not come to its end.
		"match 1 with 1 -> 5 | true -> 6 end":          done("", "5"),
		"match 2 with 1 -> 5 | true -> 6 | _ -> 7 end": stuck(""),
		"match 2 with _ -> 5 | true -> 6 end":          done("", "5"),
		// What is tagged counts only where the tag is the same.
		"match #A 1 with #B true -> 5 | #A x -> x end":                              done("", "1"),
		"match #A 1 with #A true -> 5 | _ -> 6 end":                                 stuck(""),
		"match #A (#B 1) with #A (#B 2) -> 5 | #A (#C x) -> 6 | #A (#B x) -> x end": done("", "1"),
		"match #A {a = 1} with #A {a = 2} -> 5 | #A {a = x} -> x end":               done("", "1"),
		// Labels in the order of the pattern, whatever the order of the record; further labels of the record do not count.
		"match {a = 1, b = 2} with {b = x, a = y} -> x * 10 + y end":                                           done("", "21"),
		"match {a = 1, b = 2, c = 3} with {b = x} -> x end":                                                    done("", "2"),
		"match {a = 1, b = 2} with {a = 1, b = 3} -> 5 | {a = 1, b = 2} -> 6 end":                              done("", "6"),
		"match {a = 1} with {a = 2, b = x} -> x | _ -> 5 end":                                                  done("", "5"),
		"match {a = 1} with {b = x, a = 2} -> x | _ -> 5 end":                                                  stuck(""),
		"match {a = 1} with {a = 1, b = x} -> x | _ -> 5 end":                                                  stuck(""),
		"match {a = 1, b = 2} with {a = 2, b = true} -> 5 | _ -> 6 end":                                        done("", "6"),
		"match {a = 1, b = 2} with {b = true, a = 2} -> 5 | _ -> 6 end":                                        stuck(""),
		"match {a = 1, b = 2} with {a = 1, b = true} -> 5 | _ -> 6 end":                                        stuck(""),
		"match {a = {}} with {a = {b = x}} -> x | _ -> 5 end":                                                  stuck(""),
		"match {a = {b = 1}, c = #A 2} with {a = {b = x}, c = #A y} -> x * 10 + y end":                         done("", "12"),
		"match {a = {b = 1}, c = #A 2} with {a = {b = x}, c = y} -> (match y with #A z -> x * 10 + z end) end": done("", "12"),
		"match {} with {a = x} -> x | _ -> 5 end":                                                              stuck(""),
		"match {} with {} -> 5 end":                                                                            done("", "5"),
		"match {a = 1} with {} -> 5 end":                                                                       done("", "5"),
		// What an earlier case bound is not seen by a later one.
		"let x = 7 in match {a = 1, b = 2} with {a = x, b = 3} -> x | _ -> x end":          done("", "7"),
		"match {a = 1, b = 2} with {a = x, b = 3} -> 5 | {a = y, b = x} -> x * 10 + y end": done("", "21"),
		"match {{a = 1} with b = 2} with {a = x, b = y} -> x * 10 + y end":                 done("", "12"),
		// Nothing is bound by a name's being the same.
		"let x = 1 in match 2 with x -> x end":                        done("", "2"),
		"try match {a = 1} with {a = 2} -> 3 end with Match -> 4 end": done("", "4"),
	})
}

// TestP9_1_Fuel: how much each kind of terms takes. With less it runs out, and with more all is the same.
func TestP9_1_Fuel(t *testing.T) {
	for src, need := range map[string]int64{
		"1": 1, `"a"`: 1, "true": 1, "()": 1, "A": 1, "fun x -> x": 1, "{}": 1, "{a = 1, b = 2}": 3, "{{a = 1} with a = 2}": 4, "{a = 1}.a": 3, "#A 1": 2, "#A (#B 1)": 3,
		"(fun x -> 1) 2": 4, "(fun x -> x) 2": 4, "let x = 1 in x": 3, "let rec f = fun x -> x in 1": 3, "let rec f = fun x -> x in f": 3, "let rec f = fun x -> x in f 1": 6,
		"if true then 1 else 1 + 1": 3, "if false then 1 else 1 + 1": 5, "1; 2": 3, "true && true": 3, "false && true": 3, "true || true": 3, "false || true": 3,
		"match 1 with 2 -> 3 | {a = x} -> 4 end": 2, "match 1 with 2 -> 3 end": 2, "match 1 with 2 -> 3 | 1 -> 4 end": 3, "match {a = 1, b = {c = 2}} with {a = x, b = {c = y}} -> x end": 6,
		"try 1 with _ -> 2 end": 2, "try raise A with _ -> 2 end": 6, "try raise A with B -> 2 end": 7, "raise A": 2, "1 2": 3, "raise 1": 2, "- 1": 2, "1 + 2": 3, "1 / 0": 3, "set (array 1 0) 0 1": 6, "getc ()": 2, "putc 65": 2,
		"let rec f = fun x -> if x < 1 then 0 else f (x - 1) in f 3": 5 + 3*9 + 4 + 1,
	} {
		x := read(t, src)
		last := eval.Run(x, "", need)
		if last.Kind != api.Done && last.Kind != api.Stuck {
			t.Errorf("%s: %v with %d fuel", src, last, need)
		}
		for _, fuel := range []int64{-1 << 63, -1, 0, 1, need / 2, need - 1, need + 1, need + 5, 1 << 40, 1<<63 - 1} {
			got := eval.Run(x, "", fuel)
			if fuel < need && (got.Kind != api.Fuel || got.Result != "" || !strings.HasPrefix(last.Out, got.Out)) || fuel >= need && got != last {
				t.Errorf("%s: %v with %d fuel", src, got, fuel)
			}
		}
	}
	// It is the beginning of the term that there is no fuel for: nothing of it is done.
	comes(t, "putc 65; putc 66", "", 3, spent("A"))
	comes(t, "putc 65; putc 66", "", 4, spent("A"))
	comes(t, "putc 65; putc 66", "", 5, done("AB", "()"))
	comes(t, "putc 65; putc 66", "", 2, spent(""))
}

// TestP9_1_Invalid: a term that is not valid is stuck, whatever it would have written before, and whatever the fuel is.
func TestP9_1_Invalid(t *testing.T) {
	unit, one := api.Term{Kind: api.TUnit}, api.Term{Kind: api.TInt, N: 1}
	putc := api.Term{Kind: api.TOp, N: api.OpPutc, Args: []api.Term{one}}
	after := func(x api.Term) api.Term { return api.Term{Kind: api.TLet, V: 9, Args: []api.Term{putc, x}} }
	match := func(p api.TPat) api.Term {
		return api.Term{Kind: api.TMatch, Args: []api.Term{one}, Cases: []api.Case{{P: p, Body: unit}}}
	}
	for i, x := range []api.Term{
		{}, {Kind: -1}, {Kind: api.TOp + 1}, {Kind: api.TVar}, {Kind: api.TVar, V: -1}, {Kind: api.TInt, N: 1 << 62}, {Kind: api.TInt, N: -1<<62 - 1}, {Kind: api.TBool, N: 2}, {Kind: api.TString, S: strings.Repeat("a", 4097)}, {Kind: api.TExn},
		{Kind: api.TFun}, {Kind: api.TFun, V: -1, Args: []api.Term{unit}}, {Kind: api.TFun, V: 1<<20 + 1, Args: []api.Term{unit}}, {Kind: api.TFun, V: 9, Args: []api.Term{unit}}, {Kind: api.TApp, Args: []api.Term{unit}}, {Kind: api.TApp, Args: []api.Term{unit, unit, unit}},
		{Kind: api.TRec, Args: []api.Term{unit, unit}}, {Kind: api.TIf, Args: []api.Term{unit, unit}}, {Kind: api.TRecord, Args: []api.Term{unit}}, {Kind: api.TRecord, Labels: []string{"a"}}, {Kind: api.TRecord, Labels: []string{"a", "a"}, Args: []api.Term{unit, unit}},
		{Kind: api.TWith, Args: []api.Term{unit, unit}}, {Kind: api.TField, Args: []api.Term{unit}}, {Kind: api.TTag, Args: []api.Term{unit}}, {Kind: api.TMatch, Args: []api.Term{unit}}, {Kind: api.TMatch, Cases: match(api.TPat{Kind: api.PAny}).Cases}, {Kind: api.TTry, Args: []api.Term{unit}}, {Kind: api.TRaise},
		{Kind: api.TOp}, {Kind: api.TOp, N: api.OpAdd}, {Kind: api.TOp, N: api.OpAdd, Args: []api.Term{one}}, {Kind: api.TOp, N: api.OpPutc + 1, Args: []api.Term{one}}, {Kind: api.TOp, N: 1<<32 + api.OpNeg, Args: []api.Term{one}},
		match(api.TPat{}), match(api.TPat{Kind: api.PRecord + 1}), match(api.TPat{Kind: api.PVar, V: 9}), match(api.TPat{Kind: api.PTag, S: "A"}), match(api.TPat{Kind: api.PRecord, Labels: []string{"a"}}), match(api.TPat{Kind: api.PRecord, Args: []api.TPat{{Kind: api.PAny}}}), match(api.TPat{Kind: api.PBool, N: 2}),
		{Kind: api.TFun, V: 1, Args: []api.Term{{Kind: api.TVar, V: 2}}}, {Kind: api.TLet, V: 1, Args: []api.Term{{Kind: api.TVar, V: 1}, unit}}, {Kind: api.TUnit, S: "a"}, {Kind: api.TUnit, V: 1}, {Kind: api.TUnit, Args: []api.Term{unit}},
	} {
		for _, fuel := range []int64{-1, 0, 1, plenty} {
			if got := eval.Run(after(x), "abc", fuel); got != stuck("") {
				t.Errorf("%d: %v", i, got)
			}
			// By itself no other term binds 9.
			if got := eval.Run(x, "abc", fuel); got != stuck("") && !resolve.May(x) {
				t.Errorf("%d by itself: %v", i, got)
			}
		}
	}
	if got := eval.Run(after(unit), "", plenty); got != done("\x01", "()") {
		t.Errorf("%v", got)
	}
}

// TestP9_1_OtherTerms: valid terms that no expression becomes.
func TestP9_1_OtherTerms(t *testing.T) {
	use := func(v int) api.Term { return api.Term{Kind: api.TVar, V: v} }
	exn := func(s string) api.Term { return api.Term{Kind: api.TExn, S: s} }
	raise := func(s string) api.Term { return api.Term{Kind: api.TRaise, Args: []api.Term{exn(s)}} }
	try := func(v int, a, b api.Term) api.Term { return api.Term{Kind: api.TTry, V: v, Args: []api.Term{a, b}} }
	for i, c := range []struct {
		x    api.Term
		want api.Outcome
	}{
		{try(1<<20, raise("A b\x00"), use(1<<20)), done("", "A b\x00")},
		{try(3, use(3), use(3)), stuck("")}, // Not valid: V is not seen in the first Arg.
		{try(3, exn("A"), raise("B")), done("", "A")},
		{raise("\xff raise"), done("", "raise \xff raise")},
		{raise("Match"), done("", "raise Match")},
		{api.Term{Kind: api.TInt, N: -1 << 62, At: -5}, done("", "-4611686018427387904")},
		{api.Term{Kind: api.TField, S: "A \xff", Args: []api.Term{{Kind: api.TRecord, Labels: []string{"b", "A \xff"}, Args: []api.Term{exn("B"), exn("C")}}}}, done("", "C")},
		{api.Term{Kind: api.TMatch, Args: []api.Term{{Kind: api.TTag, S: "a b", Args: []api.Term{exn("B")}}}, Cases: []api.Case{{P: api.TPat{Kind: api.PTag, S: "a b", Args: []api.TPat{{Kind: api.PVar, V: 77}}}, Body: use(77)}}}, done("", "B")},
		{api.Term{Kind: api.TMatch, Args: []api.Term{{Kind: api.TInt, N: -1 << 62}}, Cases: []api.Case{{P: api.TPat{Kind: api.PInt, N: -1 << 62}, Body: exn("B")}}}, done("", "B")},
		{api.Term{Kind: api.TString, S: strings.Repeat("\xff", 4096)}, done("", `"`+strings.Repeat(`\xff`, 4096)+`"`)},
	} {
		if got := eval.Run(c.x, "", plenty); got != c.want {
			t.Errorf("%d: %q, want %q", i, fmt.Sprint(got), fmt.Sprint(c.want))
		}
	}
}

// texts are programs of several kinds, for the tests of what holds for all.
var texts = []string{
	"putc 72; putc 105; 6 * 7",
	"let rec f = fun x -> if x < 1 then 0 else putc (64 + x); x + f (x - 1) in f 6",
	"let rec f = fun u -> let c = getc () in if c < 0 then () else (putc (c + 1); f ()) in f ()",
	"let rec f = fun x -> putc x; f (x + 1) in f 65",
	"try (if getc () < 0 then raise Foo else putc 65; 1) with Foo -> putc 33; 2 end",
	"putc 65; (fun x -> putc 66; x x) 1",
	"let a = array 3 65 in set a 1 66; putc (get a 0); putc (get a 1); putc (get a 3)",
	"let r = ref 65 in let f = fun u -> r := !r + 1; putc !r in f (); f (); try 1 / 0 with Divide -> f (); !r end",
	"match {a = 1, b = #B 2} with {a = 2, b = x} -> putc 65 | {a = 1, b = x} -> putc 66; (match x with #A y -> y | #B y -> putc y; y * 10 end) end",
	"let rec f = fun s -> putc (size s); f (cat s s) in f \"ab\"",
	"let rec f = fun x -> try putc x; if x < 70 then f (x + 1) else raise A with A -> putc (x + 32); raise A end in f 65",
	"putc 65; match 1 with true -> 1 end",
}

// TestP9_2_MoreFuel: with more fuel what has come to its end stays as it is, and what has not has written a prefix.
func TestP9_2_MoreFuel(t *testing.T) {
	for _, src := range texts {
		x := read(t, src)
		for _, input := range []string{"", "HAL"} {
			before := api.Outcome{Kind: api.Fuel}
			for fuel := range int64(400) {
				got := eval.Run(x, input, fuel)
				switch {
				case before.Kind != api.Fuel && got != before:
					t.Errorf("%s: %q with %d fuel, %q with less", src, fmt.Sprint(got), fuel, fmt.Sprint(before))
				case !strings.HasPrefix(got.Out, before.Out) || got.Kind == api.Fuel && got.Result != "" || got.Kind == api.Exhausted:
					t.Errorf("%s: %q with %d fuel, %q before", src, fmt.Sprint(got), fuel, fmt.Sprint(before))
				}
				before = got
			}
			if before.Out == "" && (input != "" || !strings.Contains(src, "let c = getc")) {
				t.Errorf("%s: nothing written", src)
			}
		}
	}
}
