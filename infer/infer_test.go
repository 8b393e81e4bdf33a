package infer_test

import (
	"strings"
	"testing"

	"marquetry/api"
	"marquetry/infer"
	"marquetry/parse"
	"marquetry/resolve"
	"marquetry/row"
)

// read returns a text's term.
func read(t *testing.T, src string) api.Term {
	t.Helper()
	x, e, at := parse.Parse(src)
	if e != api.OK {
		t.Fatalf("%s: %d at %d", src, e, at)
	}
	y, e, at := resolve.Resolve(x)
	if e != api.OK {
		t.Fatalf("%s: %d at %d", src, e, at)
	}
	return y
}

// A finding is what Infer returns, its type as a text.
type finding struct {
	text  string
	errno api.Errno
	at    int
}

func find(x api.Term) finding {
	t, e, at := infer.Infer(x)
	return finding{row.Text(t), e, at}
}

func fails(e api.Errno, at int) finding { return finding{"?", e, at} }

// has fails if a text's term does not have a type.
func has(t *testing.T, src, want string) {
	t.Helper()
	if got := find(read(t, src)); got != (finding{want, api.OK, 0}) {
		t.Errorf("%s: %v, want %s", src, got, want)
	}
}

// fault fails if a text's term does not have an error, where an @ stands in the text.
func fault(t *testing.T, src string, want api.Errno) {
	t.Helper()
	at := strings.Index(src, "@")
	src = strings.Replace(src, "@", "", 1)
	if got := find(read(t, src)); got != fails(want, at) {
		t.Errorf("%s: %v, want %d at %d", src, got, want, at)
	}
}

func TestExamples(t *testing.T) {
	has(t, "fun x -> x", "('1 -> '1)")
	has(t, "fun f -> fun x -> f (f x)", "(('1 -> '1) -> ('1 -> '1))")
	has(t, "fun r -> r.a + 1", "({a: int| 1} -> int)")
	has(t, "fun r -> {r with a = true}", "({a?1: '2| 3} -> {a: bool| 3})")
	has(t, "let f = fun x -> x in (f 1; f true)", "bool")
	has(t, "#A 1", "[A: int| 1]")
	has(t, "let r = {a = 1, b = true} in {r with a = \"x\"}.a", "string")
	fault(t, "let f = ref (fun x -> x) in f := (fun y -> y + 1); (@!f) true", api.ErrType)
	fault(t, "fun x -> @x x", api.ErrOccurs)
	fault(t, "1 + @true", api.ErrType)
}

// TestP11_1_Types: the type of each kind of terms.
func TestP11_1_Types(t *testing.T) {
	for src, want := range map[string]string{
		"1":       "int",
		"\"a\"":   "string",
		"false":   "bool",
		"()":      "unit",
		"Foo":     "exn",
		"1; true": "bool",

		"fun x -> 1":                               "('1 -> int)",
		"fun x -> fun y -> x":                      "('1 -> ('2 -> '1))",
		"fun x -> fun x -> x":                      "('1 -> ('2 -> '2))",
		"fun f -> f 1":                             "((int -> '1) -> '1)",
		"fun f -> fun x -> f x":                    "(('1 -> '2) -> ('1 -> '2))",
		"fun f -> fun g -> fun x -> f x (g x)":     "(('1 -> ('2 -> '3)) -> (('1 -> '2) -> ('1 -> '3)))",
		"(fun x -> x) 1":                           "int",
		"fun x -> let y = x in y":                  "('1 -> '1)",
		"let x = 1 in let y = true in x":           "int",
		"let _ = 1 in true":                        "bool",
		"let rec f = fun x -> f x in f":            "('1 -> '2)",
		"let rec f = fun x -> f (x + 1) in f":      "(int -> '1)",
		"let rec f = fun x -> 1 in f true; f ()":   "int",
		"let rec f = fun x -> fun y -> f y x in f": "('1 -> ('1 -> '2))",
		"if true then 1 else 2":                    "int",
		"fun x -> fun y -> if x then y else y":     "(bool -> ('1 -> '1))",
		"fun x -> fun y -> if true then x else y":  "('1 -> ('1 -> '1))",
		"fun x -> fun y -> x && y":                 "(bool -> (bool -> bool))",
		"fun x -> fun y -> x || y":                 "(bool -> (bool -> bool))",
		"raise Foo":                                "'1",
		"(raise Foo) 1 true":                       "'1",
		"fun x -> raise x":                         "(exn -> '1)",
		"try 1 with Foo -> 2 end":                  "int",
		"try 1 with x -> raise x end":              "int",
		"try raise Foo with Foo -> 1 | x -> 2 end": "int",
		"fun f -> try f () with Foo -> true end":   "((unit -> bool) -> bool)",
		"fun x -> try x with Foo -> raise Bar end": "('1 -> '1)",
		"try Foo with x -> x end":                  "exn",
		"fun f -> try 1 with x -> f x end":         "((exn -> int) -> int)",
		"fun x -> (x + 1; x)":                      "(int -> int)",
		"fun x -> (fun y -> y) x":                  "('1 -> '1)",
	} {
		has(t, src, want)
	}
}

// TestP11_1_Rows: the types of records, tags and matches.
func TestP11_1_Rows(t *testing.T) {
	for src, want := range map[string]string{
		"{}":                                                       "{}",
		"{c = 1, a = true, b = ()}":                                "{a: bool, b: unit, c: int}",
		"{b = {d = 1, c = 2}, a = fun x -> x}":                     "{a: ('1 -> '1), b: {c: int, d: int}}",
		"fun x -> fun y -> {b = x, a = y}":                         "('1 -> ('2 -> {a: '2, b: '1}))",
		"{b = 1, a = true}.b":                                      "int",
		"fun r -> r.a":                                             "({a: '1| 2} -> '1)",
		"fun r -> {x = r.a, y = r.b}":                              "({a: '1, b: '2| 3} -> {x: '1, y: '2})",
		"fun r -> r.a.b":                                           "({a: {b: '1| 2}| 3} -> '1)",
		"fun r -> fun x -> {r with a = x}":                         "({a?1: '2| 3} -> ('4 -> {a: '4| 3}))",
		"{{a = 1, b = 2} with b = true}":                           "{a: int, b: bool}",
		"{{a = 1} with b = 2}":                                     "{a: int, b: int}",
		"{{} with a = 1}":                                          "{a: int}",
		"{{{} with b = 1} with a = 2}":                             "{a: int, b: int}",
		"fun r -> {{r with a = 1} with a = ()}":                    "({a?1: '2| 3} -> {a: unit| 3})",
		"fun r -> {r with a = r.a}":                                "({a: '1| 2} -> {a: '1| 2})",
		"fun r -> {r with b = r.a}":                                "({a: '1, b?2: '3| 4} -> {a: '1, b: '1| 4})",
		"fun r -> {x = {r with a = 1}, y = r.a + 1}":               "({a: int| 1} -> {x: {a: int| 1}, y: int})",
		"fun r -> if true then r else {a = 1}":                     "({a: int} -> {a: int})",
		"fun r -> if true then {r with b = 1} else {a = 1, b = 2}": "({a: int, b?1: '2} -> {a: int, b: int})",

		"#A ()":                             "[A: unit| 1]",
		"#A (#B 1)":                         "[A: [B: int| 1]| 2]",
		"fun x -> #A x":                     "('1 -> [A: '1| 2])",
		"if true then #A 1 else #B ()":      "[A: int, B: unit| 1]",
		"fun x -> if true then x else #A 1": "([A: int| 1] -> [A: int| 1])",

		"fun x -> match x with _ -> 1 end":                              "('1 -> int)",
		"fun x -> match x with y -> y end":                              "('1 -> '1)",
		"fun x -> match x with 1 -> 2 end":                              "(int -> int)",
		"fun x -> match x with \"\" -> 2 end":                           "(string -> int)",
		"fun x -> match x with true -> 2 end":                           "(bool -> int)",
		"fun x -> match x with () -> 2 end":                             "(unit -> int)",
		"fun x -> match x with Foo -> 2 end":                            "(exn -> int)",
		"fun x -> match x with #A y -> y end":                           "([A: '1| 2] -> '1)",
		"fun x -> match x with #A y -> y | #B z -> z + 1 end":           "([A: int, B: int| 1] -> int)",
		"fun x -> match x with #A 1 -> true | #A 2 -> false end":        "([A: int| 1] -> bool)",
		"fun x -> match x with #A _ -> 1 | y -> 2 end":                  "([A: '1| 2] -> int)",
		"fun x -> match x with {b = y, a = z} -> {y = y, z = z} end":    "({a: '1, b: '2| 3} -> {y: '2, z: '1})",
		"fun x -> match x with {} -> 1 end":                             "({| 1} -> int)",
		"fun x -> match x with {a = 1} -> () | {b = true} -> () end":    "({a: int, b: bool| 1} -> unit)",
		"fun x -> match x with #A {a = y} -> y | #B (#C z) -> z end":    "([A: {a: '1| 2}, B: [C: '1| 3]| 4] -> '1)",
		"match {a = 1, b = 2} with {a = x} -> x end":                    "int",
		"match #A 1 with #B x -> x | #A y -> true end":                  "bool",
		"fun x -> match 1 with 1 -> raise Foo | 2 -> \"\" | _ -> x end": "(string -> string)",
		"fun x -> match x with y -> (fun u -> y) end":                   "('1 -> ('2 -> '1))",
	} {
		has(t, src, want)
	}
}

// TestP11_1_Operations: the types of the operands and of what they come to.
func TestP11_1_Operations(t *testing.T) {
	type operation struct {
		op   int
		want string
	}
	for _, c := range []operation{
		{api.OpAdd, "(int -> (int -> int))"},
		{api.OpSub, "(int -> (int -> int))"},
		{api.OpMul, "(int -> (int -> int))"},
		{api.OpDiv, "(int -> (int -> int))"},
		{api.OpRem, "(int -> (int -> int))"},
		{api.OpNeg, "(int -> int)"},
		{api.OpEq, "(int -> (int -> bool))"},
		{api.OpLt, "(int -> (int -> bool))"},
		{api.OpNot, "(bool -> bool)"},
		{api.OpRef, "('1 -> ('1 ref))"},
		{api.OpDeref, "(('1 ref) -> '1)"},
		{api.OpAssign, "(('1 ref) -> ('1 -> unit))"},
		{api.OpArray, "(int -> ('1 -> ('1 array)))"},
		{api.OpGet, "(('1 array) -> (int -> '1))"},
		{api.OpSet, "(('1 array) -> (int -> ('1 -> unit)))"},
		{api.OpLen, "(('1 array) -> int)"},
		{api.OpSize, "(string -> int)"},
		{api.OpByte, "(string -> (int -> int))"},
		{api.OpCat, "(string -> (string -> string))"},
		{api.OpGetc, "(unit -> int)"},
		{api.OpPutc, "(int -> unit)"},
	} {
		for n := 1; n <= 3; n++ {
			x := api.Term{Kind: api.TOp, N: int64(c.op)}
			for i := range n {
				x.Args = append(x.Args, api.Term{Kind: api.TVar, V: i})
			}
			for i := range n {
				x = fun(n-1-i, x)
			}
			want := finding{c.want, api.OK, 0}
			if n != strings.Count(c.want, "->") {
				want = fails(api.ErrForm, 0)
			}
			if got := find(x); got != want {
				t.Errorf("operation %d of %d: %v, want %v", c.op, n, got, want)
			}
		}
	}
	has(t, "fun x -> x := !x + 1", "((int ref) -> unit)")
	has(t, "fun a -> fun i -> set a i (get a (i + 1) + len a)", "((int array) -> (int -> unit))")
	has(t, "array 3 (array 4 \"\")", "((string array) array)")
	has(t, "fun a -> get (get a 0) 1", "((('1 array) array) -> '1)")
	has(t, "fun x -> - (size x) = byte x 0", "(string -> bool)")
	has(t, "fun x -> not (x < 1)", "(int -> bool)")
	has(t, "fun x -> putc (getc x)", "(unit -> unit)")
}

func fun(v int, body api.Term) api.Term {
	return api.Term{Kind: api.TFun, V: v, Args: []api.Term{body}}
}

// TestP11_1_General: the types of let are general if what is bound is a syntactic value, and those of let rec.
func TestP11_1_General(t *testing.T) {
	const twice = " in {a = f 1, b = f true}"
	for _, value := range []string{
		"let f = fun x -> x",
		"let rec f = fun x -> x",
		"let g = fun x -> x in let f = g",
		"let g = fun x -> x in let h = g in let f = h",
		"let rec g = fun x -> x in let f = g",
		"let g = fun x -> x in let f = fun x -> g x",
		"let f = fun x -> let y = x in y",
		"let f = fun x -> (fun y -> y) x",
		"let r = {a = fun x -> x} in let f = fun x -> r.a x",
		"let f = fun x -> !(ref x)",
	} {
		has(t, value+twice, "{a: int, b: bool}")
	}
	for _, other := range []string{
		"let f = (fun x -> x) (fun x -> x)",
		"let f = let g = fun x -> x in g",
		"let f = let rec g = fun x -> x in g",
		"let f = if true then fun x -> x else fun x -> x",
		"let f = {a = fun x -> x}.a",
		"let f = match 1 with _ -> fun x -> x end",
		"let f = try fun x -> x with Foo -> fun x -> x end",
		"let f = raise Foo",
		"let f = !(ref (fun x -> x))",
		"let f = get (array 1 (fun x -> x)) 0",
		"let f = (1; fun x -> x)",
	} {
		fault(t, other+" in {a = f 1, b = @f true}", api.ErrType)
		if !strings.Contains(other, "raise") {
			has(t, other+" in {a = f 1, b = f 2}", "{a: int, b: int}")
			has(t, other+" in f", "('1 -> '1)")
		}
	}
	const inTag = " in {a = match t with #A f -> f 1 end, b = match t with #A f -> @f true end}"
	const inRecord = " in {a = r.f 1, b = r@.f true}"
	for value, use := range map[string]string{
		"let t = #A (fun x -> x)":            inTag,
		"let g = fun x -> x in let t = #A g": inTag,
		"let r = {f = fun x -> x}":           inRecord,
		"let r = {n = 1, s = \"\", b = true, u = (), e = Foo, f = fun x -> x, t = #A {}}":  inRecord,
		"let q = {f = fun x -> x} in let r = q":                                            inRecord,
		"let g = fun x -> x in let r = {f = g, a = {b = #A {c = g, d = #B (fun x -> x)}}}": inRecord,
	} {
		has(t, value+strings.Replace(use, "@", "", 1), "{a: int, b: bool}")
	}
	for other, use := range map[string]string{
		"let t = #A ((fun x -> x) (fun x -> x))":         inTag,
		"let t = (fun x -> x) (#A (fun x -> x))":         inTag,
		"let r = {f = fun x -> x, n = 1 + 1}":            inRecord,
		"let r = {n = raise Foo, f = fun x -> x}":        inRecord,
		"let r = {f = fun x -> x, a = {b = #A (ref 1)}}": inRecord,
		"let r = {{} with f = fun x -> x}":               inRecord,
		"let r = {f = fun x -> x, a = {b = 1}.b}":        inRecord,
	} {
		fault(t, other+use, api.ErrType)
	}
}

// TestP11_1_Environment: what the environment's types have is not general, except what is general there; and a copy has new
// variables of all sorts.
func TestP11_1_Environment(t *testing.T) {
	for src, want := range map[string]string{
		"fun x -> let f = fun y -> x in {a = f 1, b = f true}":                                       "('1 -> {a: '1, b: '1})",
		"fun x -> let f = fun y -> {x = x, y = y} in {a = f 1, b = f true}":                          "('1 -> {a: {x: '1, y: int}, b: {x: '1, y: bool}})",
		"fun x -> let rec f = fun y -> x in {a = f 1, b = f true}":                                   "('1 -> {a: '1, b: '1})",
		"fun x -> let f = fun y -> x in let g = fun z -> f in {a = g 1 true, b = g true 1}":          "('1 -> {a: '1, b: '1})",
		"fun x -> let rec f = fun y -> x in let g = fun z -> f in (g 1 2; x + 1; g)":                 "(int -> ('1 -> ('2 -> int)))",
		"fun x -> let y = x in let z = y in (z + 1; y)":                                              "(int -> int)",
		"fun g -> let f = fun x -> g x in f":                                                         "(('1 -> '2) -> ('1 -> '2))",
		"fun r -> let f = fun x -> r.a in {a = f 1, b = f ()}":                                       "({a: '1| 2} -> {a: '1, b: '1})",
		"fun r -> let f = fun x -> {r with a = x} in {b = f 1, c = f ()}":                            "({a?1: '2| 3} -> {b: {a: int| 3}, c: {a: unit| 3}})",
		"let f = fun r -> {r with a = 1} in {b = f {}, c = f {a = (), b = 2}}":                       "{b: {a: int}, c: {a: int, b: int}}",
		"let f = fun r -> r.a in {b = f {a = 1}, c = f {a = true, b = 2}}":                           "{b: int, c: bool}",
		"let x = #A 1 in {b = x, c = if true then x else #B 1}":                                      "{b: [A: int| 1], c: [A: int, B: int| 2]}",
		"let y = #A 1 in let x = (fun z -> z) y in {b = x, c = if true then x else #B 1}":            "{b: [A: int, B: int| 1], c: [A: int, B: int| 1]}",
		"fun x -> match x with {a = y} -> let f = fun z -> y in {a = f 1, b = f true} end":           "({a: '1| 2} -> {a: '1, b: '1})",
		"fun x -> match x with y -> let f = y in (f + 1; f) end":                                     "(int -> int)",
		"try 1 with x -> let f = fun y -> x in (raise (f 1)) end":                                    "int",
		"let f = fun x -> x in fun y -> let g = f in {a = g y, b = g 1, c = g}":                      "('1 -> {a: '1, b: int, c: ('2 -> '2)})",
		"let f = (let g = fun x -> x in fun y -> g y) in f":                                          "('1 -> '1)",
		"let f = (fun x -> x) (fun x -> x) in let g = f in (f 1; g)":                                 "(int -> int)",
		"let f = (fun x -> x) (fun x -> x) in let g = fun y -> f in (f 1; g)":                        "('1 -> (int -> int))",
		"let f = fun x -> let g = fun y -> {x = x, y = y} in {a = g 1, b = g true} in f ()":          "{a: {x: unit, y: int}, b: {x: unit, y: bool}}",
		"fun x -> fun y -> let f = fun u -> if true then x else y in {a = f 1, b = f true}":          "('1 -> ('1 -> {a: '1, b: '1}))",
		"fun x -> fun y -> let f = fun u -> (if true then x else y; u) in {a = f x, b = f 1, c = y}": "('1 -> ('1 -> {a: '1, b: int, c: '1}))",
		"fun x -> let f = fun y -> (if true then x else y) in {a = f x, b = f}":                      "('1 -> {a: '1, b: ('1 -> '1)})",
		"fun x -> let f = fun y -> {a = x := y, b = y} in f":                                         "(('1 ref) -> ('1 -> {a: unit, b: '1}))",
		"fun x -> let g = let f = fun y -> x in f in (g 1; g)":                                       "('1 -> (int -> '1))",
		"let rec f = fun x -> let g = fun y -> f y in g x in f":                                      "('1 -> '2)",
		"fun x -> fun y -> let f = fun z -> {x = x, y = y} in {a = f 1, b = f ()}":                   "('1 -> ('2 -> {a: {x: '1, y: '2}, b: {x: '1, y: '2}}))",
		"fun x -> fun y -> let f = fun z -> {y = y, x = x, z = z} in {a = f x, b = f y}":             "('1 -> ('2 -> {a: {x: '1, y: '2, z: '1}, b: {x: '1, y: '2, z: '2}}))",
		"fun x -> fun y -> let f = fun z -> (z y; x) in f":                                           "('1 -> ('2 -> (('2 -> '3) -> '1)))",
		"fun x -> fun y -> fun z -> let f = fun u -> {x = x, y = y, z = z} in {a = f 1, b = f ()}":   "('1 -> ('2 -> ('3 -> {a: {x: '1, y: '2, z: '3}, b: {x: '1, y: '2, z: '3}})))",
		"let rec f = fun x -> (let g = fun y -> f in g 1; x) in {a = f 1, b = f true}":               "{a: int, b: bool}",
	} {
		has(t, src, want)
	}
	for _, src := range []string{
		"fun f -> (f 1; @f true)",
		"fun x -> let f = x in (f 1; @f true)",
		"fun x -> let f = fun y -> x y in (f 1; @f true)",
		"let rec f = fun x -> (f 1; @f true) in f",
		"let rec f = fun x -> let g = f in (g 1; @g true) in f",
		"let rec f = fun x -> let g = fun y -> f y in (g 1; @g true) in f",
		"fun x -> match x with {a = f} -> (f 1; @f true) end",
		"fun x -> let f = fun y -> (if true then x else y) in (f 1; @f true)",
		"fun x -> let rec f = fun y -> (if true then x else y) in (f 1; @f true)",
		"fun x -> let f = (let g = fun y -> (if true then x else y) in fun z -> g z) in (f 1; @f true)",
		"fun x -> let rec f = fun y -> x in let g = fun z -> f z in (1 + g 1; not (@g true))",
		"let r = {f = fun x -> x} in let g = r.f in (g 1; @g true)",
		"fun f -> try f Foo with x -> let g = fun y -> {@x with a = y} in 1 end",
	} {
		fault(t, src, api.ErrType)
	}
}

// TestP11_1_Faults: the error of each step, and its place. (An operation's place is its sign, a field's its dot, and an
// application's that of the function.)
func TestP11_1_Faults(t *testing.T) {
	for _, src := range []string{
		"@1 2",
		"fun x -> (x @+ 1) ()",
		"(@fun x -> x + 1) true",
		"fun f -> f 1 + (@f true)",
		"if @1 then 2 else 3",
		"if true then 1 else @()",
		"@1 && true",
		"true @&& 1",
		"@1 || true",
		"true || @1",
		"@{a = 1}.b",
		"@1.a",
		"fun x -> (x @+ 1).a",
		"{@1 with a = 2}",
		"{@#A 1 with a = 2}",
		"{(@if true then 1 else 2) with a = 3}",
		"match 1 with 1 -> 2 | 2 -> @() end",
		"@match 1 with true -> 2 end",
		"@match 1 with 1 -> 2 | true -> 2 end",
		"@match 1 with #A x -> 2 end",
		"@match #A 1 with {} -> 2 end",
		"fun x -> @match x with #A y -> 1 | {} -> 2 end",
		"@match {a = 1} with {b = x} -> 2 end",
		"@match #A 1 with #A true -> 2 end",
		"@match {a = 1} with {a = ()} -> 2 end",
		"fun x -> @match x with 1 -> 1 | \"\" -> 2 end",
		"@try 1 with Foo -> true end",
		"@try Foo with 1 -> Foo end",
		"try 1 with x -> @x + 1 end",
		"raise @1",
		"if true then #A 1 else @#A true",
		"if true then {a = 1} else @{}",
		"if true then {} else @{a = 1}",
		"if true then {a = 1} else @{a = true}",
		"let x = 1 in @x true",
	} {
		fault(t, src, api.ErrType)
	}
}

// TestP11_1_Occurs: a variable that would be in its own value.
func TestP11_1_Occurs(t *testing.T) {
	for _, src := range []string{
		"fun x -> @x x",
		"let rec f = @fun x -> f in f",
		"let rec f = @fun x -> f x.a in f",
		"fun x -> if true then x else @ref x",
		"fun r -> if true then r else @{a = r}",
		"fun r -> if true then r.a else @r",
		"fun x -> match x with #A y -> y | _ -> @x end",
		"fun x -> x := @x",
		"fun x -> set x 1 @x",
		"let f = fun x -> (fun y -> @x y x) in f",
		"fun x -> fun y -> (x y; @y x)",
	} {
		fault(t, src, api.ErrOccurs)
	}
}

// TestP11_1_Order: of several errors, the result is the one that the steps come to first.
func TestP11_1_Order(t *testing.T) {
	for _, src := range []string{
		"(1 + @true) (1 + ())",
		"1 (1 + @())",
		"let x = 1 + @true in 1 + ()",
		"let x = 1 in (if @x then 1 + () else true + 1)",
		"let rec f = fun x -> 1 + @true in f + ()",
		"let rec f = @fun x -> f + f in f + ()",
		"let rec f = fun x -> f 1 + @f in f + ()",
		"if @1 then 1 + () else true + 1",
		"if true then 1 + @() else true + 1",
		"if true then 1 else @true + 1",
		"{b = 1 + @(), a = true + 1}",
		"{(1 + @()) with a = true + 1}",
		"{1 with a = @true + 1}",
		"(1 + @()).a",
		"#A (1 + @())",
		"match 1 + @() with 1 -> true + 1 end",
		"@match 1 with true -> true + 1 end",
		"match 1 with 1 -> @true + 1 | true -> 1 end",
		"match 1 with 1 -> 1 | 2 -> @true | true -> 1 end",
		"@match 1 with 1 -> 1 | true -> true end",
		"try 1 + @() with Foo -> true + 1 end",
		"try 1 with Foo -> @true + 1 end",
		"raise (1 + @())",
		"@true + (1 + ())",
		"1 + (@true + ())",
		"set @1 (1 + ()) true",
		"set (array 1 1) @true (1 + ())",
		"set (array 1 1) 1 (1 + @())",
		"set (array 1 1) 1 @true",
		"get @true true",
		"cat @1 2",
		"byte \"\" @\"\" + true",
		"array @true (1 + ())",
		"(array 1 (1 + @()))",
		"(fun x -> x + @true) 1 2",
	} {
		fault(t, src, api.ErrType)
	}
}
