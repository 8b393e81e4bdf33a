package resolve_test

import (
	"fmt"
	"strings"
	"testing"

	"marquetry/api"
	"marquetry/parse"
	"marquetry/resolve"
)

const (
	largest  = int(^uint(0) >> 1)
	smallest = -largest - 1
)

// termNames and patNames are the kinds as the tests write them.
var (
	termNames = []string{"?", "var", "int", "string", "bool", "unit", "exn", "fun", "app", "let", "rec", "if", "record", "with", "field", "tag", "match", "try", "raise", "op"}
	patNames  = []string{"?", "any", "pvar", "pint", "pstring", "pbool", "punit", "pexn", "ptag", "precord"}
)

// dumped writes the fields of a part: those that its kind has, and all that are not zero.
func dumped(kind string, v int, n int64, s string, labels []string) string {
	b := kind
	if v != 0 || strings.Contains(" var fun let rec try pvar ", " "+kind+" ") {
		b += fmt.Sprint(" v", v)
	}
	if n != 0 || strings.Contains(" int bool op pint pbool ", " "+kind+" ") {
		b += fmt.Sprint(" n", n)
	}
	if s != "" || strings.Contains(" string pstring ", " "+kind+" ") {
		b += fmt.Sprintf(" %q", s)
	}
	for _, l := range labels {
		b += " ." + l
	}
	return b
}

// dump writes a term, with all places.
func dump(t api.Term) string {
	b := fmt.Sprint(dumped(termNames[t.Kind], t.V, t.N, t.S, t.Labels), " @", t.At)
	for _, a := range t.Args {
		b += " " + dump(a)
	}
	for _, c := range t.Cases {
		b += " | " + dumpPat(c.P) + " -> " + dump(c.Body)
	}
	return "(" + b + ")"
}

func dumpPat(p api.TPat) string {
	b := dumped(patNames[p.Kind], p.V, p.N, p.S, p.Labels)
	for _, a := range p.Args {
		b += " " + dumpPat(a)
	}
	return "(" + b + ")"
}

// read returns the expression of a source.
func read(t *testing.T, src string) api.Expr {
	t.Helper()
	e, errno, at := parse.Parse(src)
	if errno != api.OK {
		t.Fatalf("%s: %d at %d", src, errno, at)
	}
	return e
}

// becomes fails if a source does not become this term, or that is not valid.
func becomes(t *testing.T, src, want string) {
	t.Helper()
	got, errno, at := resolve.Resolve(read(t, src))
	if errno != api.OK || at != 0 {
		t.Errorf("%s: %d at %d", src, errno, at)
		return
	}
	if dump(got) != want {
		t.Errorf("%s:\n%s, want\n%s", src, dump(got), want)
	}
	if !resolve.May(got) {
		t.Errorf("%s: not valid", src)
	}
}

// fails fails if an expression does not have this error at this place, and nothing else.
func fails(t *testing.T, e api.Expr, errno api.Errno, at int) {
	t.Helper()
	got, f, place := resolve.Resolve(e)
	if f != errno || place != at || !isZero(got) {
		t.Errorf("%.200s: %d at %d, want %d at %d", fmt.Sprint(e), f, place, errno, at)
	}
}

// refuses does the same for a source, in which ^ marks the place.
func refuses(t *testing.T, marked string, errno api.Errno) {
	t.Helper()
	before, after, _ := strings.Cut(marked, "^")
	got, f, at := resolve.Resolve(read(t, before+after))
	if f != errno || at != len(before) || !isZero(got) {
		t.Errorf("%s: %d at %d, want %d at %d", marked, f, at, errno, len(before))
	}
}

func isZero(t api.Term) bool {
	return t.Kind == 0 && t.At == 0 && t.V == 0 && t.N == 0 && t.S == "" && len(t.Labels)+len(t.Args)+len(t.Cases) == 0
}

func TestExamples(t *testing.T) {
	becomes(t, "fun x -> fun x -> x", "(fun v0 @0 (fun v1 @9 (var v1 @18)))")
	becomes(t, "let x = 1 in x; x", "(let v0 @0 (int n1 @8) (let v1 @14 (var v0 @13) (var v0 @16)))")
	refuses(t, "^x", api.ErrName)
	refuses(t, "^{a = 1, a = 2}", api.ErrTwice)
	refuses(t, "match 1 with {a = x, b = ^x} -> x end", api.ErrTwice)
}

// TestP8_1_Terms: each kind of expressions by itself.
func TestP8_1_Terms(t *testing.T) {
	for src, want := range map[string]string{
		"0":                           "(int n0 @0)",
		" 4611686018427387903":        "(int n4611686018427387903 @1)",
		`""`:                          `(string "" @0)`,
		` "a\n\xff"`:                  `(string "a\n\xff" @1)`,
		"true":                        "(bool n1 @0)",
		" false":                      "(bool n0 @1)",
		" ()":                         "(unit @1)",
		" Foo_1":                      `(exn "Foo_1" @1)`,
		" fun x -> 1":                 "(fun v0 @1 (int n1 @10))",
		"1 2":                         "(app @0 (int n1 @0) (int n2 @2))",
		"1 2 3":                       "(app @0 (app @0 (int n1 @0) (int n2 @2)) (int n3 @4))",
		"let x = 1 in 2":              "(let v0 @0 (int n1 @8) (int n2 @13))",
		"let rec f = fun x -> 1 in 2": "(rec v0 @0 (fun v1 @12 (int n1 @21)) (int n2 @26))",
		"if 1 then 2 else 3":          "(if @0 (int n1 @3) (int n2 @10) (int n3 @17))",
		"{}":                          "(record @0)",
		"{b = 1, a = 2, _ = 3}":       "(record .b .a ._ @0 (int n1 @5) (int n2 @12) (int n3 @19))",
		"{1 with a = 2}":              `(with "a" @0 (int n1 @1) (int n2 @12))`,
		"1.a._":                       `(field "_" @3 (field "a" @1 (int n1 @0)))`,
		" #Foo 1":                     `(tag "Foo" @1 (int n1 @6))`,
		"raise Foo":                   `(raise @0 (exn "Foo" @6))`,
		"1; 2":                        "(let v0 @1 (int n1 @0) (int n2 @3))",
		"1 && 2":                      "(if @2 (int n1 @0) (int n2 @5) (bool n0 @2))",
		"1 || 2":                      "(if @2 (int n1 @0) (bool n1 @2) (int n2 @5))",
		"match 1 with 2 -> 3 end":     "(match @0 (int n1 @6) | (pint n2) -> (int n3 @18))",
		"try 1 with 2 -> 3 end":       "(try v0 @0 (int n1 @4) (match @0 (var v0 @0) | (pint n2) -> (int n3 @16) | (any) -> (raise @0 (var v0 @0))))",
	} {
		becomes(t, src, want)
	}
}

func TestP8_1_Operations(t *testing.T) {
	signs := []string{"", "1 + 2", "1 - 2", "1 * 2", "1 / 2", "1 % 2", "- 1", "1 = 2", "1 < 2", "not 1", "ref 1", "! 1", "1 := 2", "array 1 2", "get 1 2", "set 1 2 3", "len 1", "size 1", "byte 1 2", "cat 1 2", "getc 1", "putc 1"}
	for n, src := range signs {
		if n == 0 {
			continue
		}
		e := read(t, src)
		want := fmt.Sprint("(op n", n, " @", e.At)
		for i, a := range e.Args {
			want += fmt.Sprint(" (int n", i+1, " @", a.At, ")")
		}
		becomes(t, src, want+")")
	}
}

func TestP8_1_Patterns(t *testing.T) {
	for pat, want := range map[string]string{
		"_":                            "(any)",
		"x":                            "(pvar v0)",
		"0":                            "(pint n0)",
		"-4611686018427387903":         "(pint n-4611686018427387903)",
		`""`:                           `(pstring "")`,
		`"a\xff"`:                      `(pstring "a\xff")`,
		"true":                         "(pbool n1)",
		"false":                        "(pbool n0)",
		"()":                           "(punit)",
		"Foo":                          `(pexn "Foo")`,
		"#A _":                         `(ptag "A" (any))`,
		"#A (#Bc x)":                   `(ptag "A" (ptag "Bc" (pvar v0)))`,
		"{}":                           "(precord)",
		"{b = x, a = 1, _ = y}":        "(precord .b .a ._ (pvar v0) (pint n1) (pvar v1))",
		"{a = {a = x}, b = {}}":        "(precord .a .b (precord .a (pvar v0)) (precord))",
		"#A {a = y, b = (#B {c = x})}": `(ptag "A" (precord .a .b (pvar v0) (ptag "B" (precord .c (pvar v1)))))`,
	} {
		becomes(t, "match () with "+pat+" -> 1 end", fmt.Sprint("(match @0 (unit @6) | ", want, " -> (int n1 @", 18+len(pat), "))"))
	}
}

// TestP8_1_Order: in which order variables are bound.
func TestP8_1_Order(t *testing.T) {
	for src, want := range map[string]string{
		"F F":                         "0 1",
		"fun y -> F":                  "0 1",
		"let y = F in F":              "1 0 2",
		"let rec y = fun z -> F in F": "0 1 2 3",
		"if F then F else F":          "0 1 2",
		"{b = F, a = F}":              "0 1",
		"{F with a = F}":              "0 1",
		"set F F F":                   "0 1 2",
		"F; F":                        "1 0 2",
		"F; F; F":                     "1 0 3 2 4",
		"F && F || F":                 "0 1 2",
		"match F with y -> F | {b = z, a = {c = u, a = y}} -> F | _ -> F | y -> F end": "0 | 1 2 | 3 4 5 6 | 7 | 8 9",
		"try F with y -> F | z -> F end":                                               "1 0 | 2 3 | 4 5 |",
		"(try F with _ -> F end); F":                                                   "3 1 0 | 2 | 4",
		"let _ = F in fun _ -> F":                                                      "1 0 2 3",
		"fun _ -> match F with _ -> F end":                                             "0 1 | 2",
		"match 1 with #A (#B x) -> F end":                                              "| 0 1",
		"let rec f = fun x -> 1 in let g = 2 in fun h -> 3; 4":                         "0 1 2 3 4",
	} {
		term, errno, _ := resolve.Resolve(read(t, strings.ReplaceAll(src, "F", "(fun x -> x)")))
		if got := strings.TrimSpace(binders(term)); errno != api.OK || got != want {
			t.Errorf("%s: %q, want %q, %d", src, got, want, errno)
		}
	}
}

// binders writes the variables that are bound, in the order in which the term has them.
func binders(t api.Term) string {
	b := ""
	switch t.Kind {
	case api.TFun, api.TLet, api.TRec, api.TTry:
		b = fmt.Sprint(t.V, " ")
	}
	for _, a := range t.Args {
		b += binders(a)
	}
	for _, c := range t.Cases {
		b += "| " + patBinders(c.P) + binders(c.Body)
	}
	return b
}

func patBinders(p api.TPat) string {
	b := ""
	if p.Kind == api.PVar {
		b = fmt.Sprint(p.V, " ")
	}
	for _, a := range p.Args {
		b += patBinders(a)
	}
	return b
}

// TestP8_1_Scopes: what names refer to.
func TestP8_1_Scopes(t *testing.T) {
	for src, want := range map[string]string{
		"fun x -> fun y -> x y":                                       "0 1",
		"fun x -> (fun x -> x) x":                                     "1 0",
		"let x = 1 in (let x = x in x) + x":                           "0 1 0",
		"let x = 1 in let x = (let x = x in x) in x":                  "0 1 2",
		"fun x -> let x = x in x":                                     "0 1",
		"let rec x = fun y -> x y in x":                               "0 1 0",
		"let rec x = fun x -> x in x":                                 "1 0",
		"fun x -> let rec x = fun y -> x in x":                        "1 1",
		"fun x -> match x with x -> x | y -> x y end":                 "0 1 0 2",
		"fun x -> match 1 with {a = y, b = z} -> z x y end":           "2 0 1",
		"match 1 with x -> x | {a = x, b = #A y} -> x y | y -> y end": "0 1 2 3",
		"match 1 with x -> match x with x -> x end end":               "0 1",
		"fun x -> try x with x -> x | y -> x end":                     "0 1 2 0 1",
		"fun x -> (x; x); x":                                          "0 0 0",
		"fun x -> x; fun x -> x":                                      "0 2",
		"fun x -> (fun _ -> x) x":                                     "0 0",
		"let x = 1 in let _ = 2 in x":                                 "0",
		"fun x -> {x = x, y = x}.x":                                   "0 0",
		"fun x -> {x with x = x}":                                     "0 0",
		"fun x -> x && x || x":                                        "0 0 0",
		"fun x -> if x then x else x":                                 "0 0 0",
		"fun x -> raise (#X x)":                                       "0",
		"(fun x -> x) (fun x -> x)":                                   "0 1",
		"fun __ -> fun _a -> __ _a":                                   "0 1",
	} {
		term, errno, at := resolve.Resolve(read(t, src))
		if got := strings.TrimSpace(uses(term)); errno != api.OK || at != 0 || got != want {
			t.Errorf("%s: %q, want %q, %d at %d", src, got, want, errno, at)
		}
	}
}

// uses writes the variables that are named, in the order in which the term has them.
func uses(t api.Term) string {
	b := ""
	if t.Kind == api.TVar {
		b = fmt.Sprint(t.V, " ")
	}
	for _, a := range t.Args {
		b += uses(a)
	}
	for _, c := range t.Cases {
		b += uses(c.Body)
	}
	return b
}

// TestP8_1_Unbound: each place where a name is not seen.
func TestP8_1_Unbound(t *testing.T) {
	for _, src := range []string{
		"^x", " ^_", "fun _ -> ^_", "let _ = 1 in ^_", "let rec _ = fun _ -> 1 in ^_", "let rec _ = fun x -> ^_ in 1", "match 1 with _ -> ^_ end", "try 1 with _ -> ^_ end", "fun x -> ^y x", "fun x -> ^xx",
		"let x = ^x in 1", "let x = 1 in ^y", "(let x = 1 in x) + ^x", "(fun x -> x) ^x", "^x (fun x -> x)",
		"let rec f = fun x -> f in ^x", "(let rec f = fun x -> f in f) ^f", "(let rec f = fun x -> x in f) ^x",
		"match ^x with x -> x end", "match 1 with x -> 1 | y -> ^x end", "match 1 with y -> ^x | x -> 1 end", "(match 1 with x -> x end) ^x", "match 1 with {a = x, b = #A y} -> 1 | _ -> ^y end", "match 1 with {x = y} -> ^x end", "match 1 with #A y -> ^a end",
		"try ^x with x -> x end", "try 1 with x -> 1 | y -> ^x end", "(try 1 with x -> x end) ^x", "try 1 with Foo -> ^foo end",
		"(fun x -> 1); ^x", "{a = 1, b = ^a}", "{a = 1}.a + ^a", "{{a = 1} with a = ^a}", "{^a with a = 1}", "if ^x then y else z", "1 + ^x", "- ^x", "set 1 2 ^x", "raise ^x", "#A ^x", "^x.x", "^x && y", "^x || y", "true && ^x", "true || ^x", "1; ^x", "^x; y",
	} {
		refuses(t, src, api.ErrName)
	}
	fails(t, api.Expr{Kind: api.EVar, At: -7, Name: "x"}, api.ErrName, -7)
	fails(t, api.Expr{Kind: api.EVar, At: 1 << 40, Name: "_"}, api.ErrName, 1<<40)
}

func TestP8_1_Twice(t *testing.T) {
	for _, src := range []string{
		"^{a = 1, a = 2}", "^{a = 1, b = 2, a = 3}", "^{_ = 1, _ = 2}", "^{a = x, a = y}", "{b = ^{a = 1, a = 2}}", "^{a = {b = 1, b = 2}, a = 1}", "{a = ^{b = 1, b = 2}, c = {d = 1, d = 2}}",
		"match 1 with ^{a = _, a = _} -> 1 end", "match 1 with {b = ^{a = 1, c = 2, a = 3}} -> 1 end", "match 1 with #A ^{a = x, a = x} -> 1 end",
		"match 1 with {a = x, b = ^x} -> 1 end", "match 1 with {a = x, b = y, c = {a = z, b = #A ^y}} -> 1 end", "match 1 with {a = {b = x}, c = {b = ^x}} -> 1 end",
		"match 1 with _ -> 1 | {a = x, b = ^x} -> 1 end", "try 1 with ^{a = _, a = _} -> 1 end", "try 1 with {a = x, b = ^x} -> 1 end", "fun x -> match 1 with {a = x, b = ^x} -> 1 end",
		"match 1 with x -> match 1 with {a = y, b = x, c = ^x} -> 1 end end",
	} {
		refuses(t, src, api.ErrTwice)
	}
	// The same name or label elsewhere is none.
	for _, src := range []string{
		"{a = 1, aa = 2}", "{a = {a = 1}, b = {a = 2}}", "match 1 with {a = {a = x}, b = y} -> 1 end", "match 1 with x -> 1 | x -> 2 end", "fun x -> match x with {a = x} -> match x with x -> x end end",
		"match 1 with {a = _, b = _} -> 1 end", "fun x -> fun x -> let x = x in let rec x = fun x -> x in x", "try 1 with x -> 1 | x -> 2 end", "match 1 with #A x -> try x with x -> x end | x -> x end",
		"{{a = 1} with a = 2}", "match 1 with {x = x} -> {x = x} end",
	} {
		term, errno, at := resolve.Resolve(read(t, src))
		if errno != api.OK || at != 0 || !resolve.May(term) {
			t.Errorf("%s: %d at %d", src, errno, at)
		}
	}
}

// TestP8_1_First: of several errors, the first one on the way.
func TestP8_1_First(t *testing.T) {
	for src, errno := range map[string]api.Errno{
		"^x {a = 1, a = 2}":                                               api.ErrName,
		"^{a = 1, a = 2} x":                                               api.ErrTwice,
		"^{a = x, a = y}":                                                 api.ErrTwice,
		"{a = ^x, b = {a = 1, a = 2}}":                                    api.ErrName,
		"{a = ^{a = x, a = 1}, b = y}":                                    api.ErrTwice,
		"fun y -> ^x z":                                                   api.ErrName,
		"let y = ^x in {a = 1, a = 2}":                                    api.ErrName,
		"let y = ^{a = 1, a = 2} in x":                                    api.ErrTwice,
		"let rec f = fun y -> ^x in {a = 1, a = 2}":                       api.ErrName,
		"^x; {a = 1, a = 2}":                                              api.ErrName,
		"^{a = 1, a = 2}; x":                                              api.ErrTwice,
		"1 + ^{a = 1, a = 2} && x":                                        api.ErrTwice,
		"match ^x with {a = _, a = _} -> y end":                           api.ErrName,
		"match 1 with ^{a = _, a = _} -> x end":                           api.ErrTwice,
		"match 1 with y -> ^x | {a = _, a = _} -> 1 end":                  api.ErrName,
		"match 1 with {a = y, b = ^y, c = {d = _, d = _}} -> x end":       api.ErrTwice,
		"match 1 with {a = ^{d = _, d = _}, b = y, c = y} -> x end":       api.ErrTwice,
		"match 1 with ^{a = y, a = y} -> x end":                           api.ErrTwice,
		"match 1 with {a = ^{b = y, b = y}, c = {d = 1, d = 1}} -> x end": api.ErrTwice,
		"try ^x with {a = _, a = _} -> y end":                             api.ErrName,
		"try 1 with ^{a = _, a = _} -> x end":                             api.ErrTwice,
		"try 1 with y -> ^x | {a = y, b = y} -> 1 end":                    api.ErrName,
		"try 1 with {a = y, b = ^y} -> x end":                             api.ErrTwice,
		"if ^x then y else z":                                             api.ErrName,
		"set ^x y z":                                                      api.ErrName,
		"{^x with a = y}":                                                 api.ErrName,
	} {
		refuses(t, src, errno)
	}
}

// TestP8_1_Show: what is not printable, or too much, comes before all else; a text that is too long is no fault.
func TestP8_1_Show(t *testing.T) {
	x := api.Expr{Kind: api.EVar, At: 9, Name: "x"}
	bad := api.Expr{Kind: api.EVar, At: 9, Name: "let"}
	unit := api.Expr{Kind: api.EUnit, At: 3}
	twice := api.Expr{Kind: api.ERecord, At: 8, Labels: []string{"a", "a"}, Args: []api.Expr{unit, unit}}
	pair := func(a, b api.Expr) api.Expr { return api.Expr{Kind: api.EApp, At: 5, Args: []api.Expr{a, b}} }
	fails(t, pair(x, bad), api.ErrForm, 0)
	fails(t, pair(twice, bad), api.ErrForm, 0)
	for _, e := range []api.Expr{{}, {At: 4}, {Kind: api.EOr + 1, At: 4}, {Kind: -1}, {Kind: largest}, {Kind: smallest}, {Kind: api.EInt, N: -1}, {Kind: api.EUnit, Name: "a"}, {Kind: api.EApp, At: 4, Args: []api.Expr{unit}},
		{Kind: api.EMatch, At: 4, Args: []api.Expr{unit}}, {Kind: api.ERec, Name: "f", Args: []api.Expr{unit, unit}}, {Kind: api.ERec}, {Kind: api.EMatch, Args: []api.Expr{unit}, Arms: []api.Arm{{P: api.Pat{Kind: api.PVar, Name: "_"}, Body: unit}}}, {Kind: api.ERecord, Labels: []string{"a"}}, {Kind: api.EVar}} {
		fails(t, e, api.ErrForm, 0)
	}
	deep := func(n int, e api.Expr) api.Expr {
		for range n {
			e = api.Expr{Kind: api.ERaise, At: 7, Args: []api.Expr{e}}
		}
		return e
	}
	fails(t, deep(199, x), api.ErrName, 9)
	fails(t, deep(200, x), api.ErrDeep, 0)
	fails(t, deep(200, bad), api.ErrDeep, 0)
	wide := func(n int, last api.Expr) api.Expr {
		e := api.Expr{Kind: api.ERecord, At: 6}
		for i := range n - 1 {
			e.Labels, e.Args = append(e.Labels, fmt.Sprint("l", i)), append(e.Args, unit)
		}
		e.Args[n-2] = last
		return e
	}
	// No text has room for these.
	fails(t, wide(api.MaxNodes, x), api.ErrName, 9)
	fails(t, wide(api.MaxNodes, bad), api.ErrForm, 0)
	fails(t, wide(api.MaxNodes+1, bad), api.ErrMany, 0)
	fails(t, wide(api.MaxNodes+1, unit), api.ErrMany, 0)
	if term, errno, at := resolve.Resolve(wide(api.MaxNodes, unit)); errno != api.OK || at != 0 || len(term.Args) != api.MaxNodes-1 || len(term.Labels) != api.MaxNodes-1 || term.Labels[7] != "l7" || !resolve.May(term) {
		t.Errorf("%d parts, %d at %d", len(term.Args), errno, at)
	}
	long := strings.Repeat("x", api.MaxSource+1)
	fails(t, api.Expr{Kind: api.EVar, At: 2, Name: long}, api.ErrName, 2)
	term, errno, at := resolve.Resolve(api.Expr{Kind: api.EFun, Name: long, Args: []api.Expr{{Kind: api.EVar, At: 2, Name: long}}})
	if errno != api.OK || at != 0 || dump(term) != "(fun v0 @0 (var v0 @2))" {
		t.Errorf("%.60s: %d at %d", dump(term), errno, at)
	}
	// Such a string is one, but no term may have it.
	for n, valid := range map[int]bool{api.MaxText: true, api.MaxText + 1: false} {
		term, errno, at = resolve.Resolve(api.Expr{Kind: api.EString, At: 2, S: strings.Repeat("\xff", n)})
		if errno != api.OK || at != 0 || term.S != strings.Repeat("\xff", n) || term.At != 2 || resolve.May(term) != valid {
			t.Errorf("a string of %d bytes: %d at %d", n, errno, at)
		}
	}
}
