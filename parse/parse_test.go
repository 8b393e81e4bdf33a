package parse_test

import (
	"fmt"
	"math/rand"
	"reflect"
	"runtime/debug"
	"strings"
	"sync"
	"testing"
	"unsafe"

	"marquetry/api"
	"marquetry/lex"
	"marquetry/parse"
)

// reads fails if a text is not read as what dump tells so.
func reads(t *testing.T, src, want string) {
	t.Helper()
	e, errno, at := parse.Parse(src)
	if errno != api.OK || at != 0 {
		t.Errorf("%.80q: %d at %d", src, errno, at)
	} else if got := dump(e); got != want {
		t.Errorf("%.80q:\n%s, want\n%s", src, got, want)
	}
}

// fails fails if a text is not refused with this error at this place.
func fails(t *testing.T, src string, want api.Errno, place int) {
	t.Helper()
	e, errno, at := parse.Parse(src)
	if errno != want || at != place || !reflect.DeepEqual(e, api.Expr{}) {
		t.Errorf("%.80q: %+v, %d at %d, want %d at %d", src, e, errno, at, want, place)
	}
}

func TestExamples(t *testing.T) {
	reads(t, "f x y", "app@0(app@0(var@0:f var@2:x) var@4:y)")
	reads(t, "a - b - c; d", "seq@9(sub@6(sub@2(var@0:a var@4:b) var@8:c) var@11:d)")
	for src, at := range map[string]int{"a = b = c": 6, "f #A x": 2, "{x = 1 with y = 2}": 7, "(a": 2, "": 0} {
		fails(t, src, api.ErrSyntax, at)
	}
	reads(t, "match x with #A -1 -> 0 | _ -> 1 end", "match@0(var@6:x)[tag@13:A(int@16=-1) -> int@22 | any@26 -> int@31=1]")
}

func TestP6_1_Atoms(t *testing.T) {
	reads(t, " x", "var@1:x")
	reads(t, "_", "var@0:_")
	reads(t, "0", "int@0")
	reads(t, "4611686018427387903", "int@0=4611686018427387903")
	reads(t, `"a\n"`, `string@0"a\n"`)
	reads(t, `""`, "string@0")
	reads(t, "true", "bool@0=1")
	reads(t, "false", "bool@0")
	reads(t, " ( )", "unit@1")
	reads(t, "Foo", "exn@0:Foo")
	reads(t, "(((x)))", "var@3:x")
	reads(t, "((()))", "unit@2")
	reads(t, "{ }", "record@0")
	reads(t, "{b = 1, a = 2, b = {}}", "record@0{b a b}(int@5=1 int@12=2 record@19)")
	reads(t, "{x = a = b}", "record@0{x}(eq@7(var@5:a var@9:b))")
	reads(t, "{x = fun x -> x, _ = ()}", "record@0{x _}(fun@5:x(var@14:x) unit@21)")
	reads(t, "{r with a = 1; 2}", "with@0:a(var@1:r seq@13(int@12=1 int@15=2))")
	reads(t, "{(x = 1) with y = 2}", "with@0:y(eq@4(var@2:x int@6=1) int@18=2)")
	reads(t, "{x; y = 1 with _ = 2}", "with@0:_(seq@2(var@1:x eq@6(var@4:y int@8=1)) int@19=2)")
	reads(t, "{{a = 1} with a = {b with c = d}}", "with@0:a(record@1{a}(int@6=1) with@18:c(var@19:b var@30:d))")
}

func TestP6_1_Items(t *testing.T) {
	reads(t, "fun x -> fun _ -> x; y", "fun@0:x(fun@9:_(seq@19(var@18:x var@21:y)))")
	reads(t, "let x = a; b in c; d", "let@0:x(seq@9(var@8:a var@11:b) seq@17(var@16:c var@19:d))")
	reads(t, "let rec f = fun x -> x; 1 in f", "rec@0:f(fun@12:x(seq@22(var@21:x int@24=1)) var@29:f)")
	reads(t, "if a; b then c else d; e", "seq@21(if@0(seq@4(var@3:a var@6:b) var@13:c var@20:d) var@23:e)")
	reads(t, "if a then let x = b in c; d else e", "if@0(var@3:a let@10:x(var@18:b seq@24(var@23:c var@26:d)) var@33:e)")
	reads(t, "if a then b else if c then d else e", "if@0(var@3:a var@10:b if@17(var@20:c var@27:d var@34:e))")
	reads(t, "if a then b else fun x -> c; d", "if@0(var@3:a var@10:b fun@17:x(seq@27(var@26:c var@29:d)))")
	reads(t, "raise !x.y", "raise@0(deref@6(field@8:y(var@7:x)))")
	reads(t, "raise Foo; x", "seq@9(raise@0(exn@6:Foo) var@11:x)")
	reads(t, "try a; b with Foo -> 1; 2 | _ -> 3 end; c", "seq@38(try@0(seq@5(var@4:a var@7:b))[exn@14:Foo -> seq@22(int@21=1 int@24=2) | any@28 -> int@33=3] var@40:c)")
	reads(t, "match try a with _ -> b end with x -> match y with z -> 1 end | w -> 2 end", "match@0(try@6(var@10:a)[any@17 -> var@22:b])[var@33:x -> match@38(var@44:y)[var@51:z -> int@56=1] | var@64:w -> int@69=2]")
	reads(t, "a; b; c", "seq@1(var@0:a seq@4(var@3:b var@6:c))")
	reads(t, "(a; b); c", "seq@6(seq@2(var@1:a var@4:b) var@8:c)")
}

func TestP6_1_Operators(t *testing.T) {
	reads(t, "a := b := c", "assign@2(var@0:a assign@7(var@5:b var@10:c))")
	reads(t, "a := let x = 1 in x; y", "assign@2(var@0:a let@5:x(int@13=1 seq@19(var@18:x var@21:y)))")
	reads(t, "a || b := c; d", "seq@11(assign@7(or@2(var@0:a var@5:b) var@10:c) var@13:d)")
	reads(t, "a||b||c", "or@1(var@0:a or@4(var@3:b var@6:c))")
	reads(t, "a&&b&&c", "and@1(var@0:a and@4(var@3:b var@6:c))")
	reads(t, "a&&b||c&&d", "or@4(and@1(var@0:a var@3:b) and@7(var@6:c var@9:d))")
	reads(t, "a=b&&c<d", "and@3(eq@1(var@0:a var@2:b) lt@6(var@5:c var@7:d))")
	reads(t, "a+b=c-d", "eq@3(add@1(var@0:a var@2:b) sub@5(var@4:c var@6:d))")
	reads(t, "a+b-c+d", "add@5(sub@3(add@1(var@0:a var@2:b) var@4:c) var@6:d)")
	reads(t, "a-(b-c)", "sub@1(var@0:a sub@4(var@3:b var@5:c))")
	reads(t, "a*b/c%d", "rem@5(div@3(mul@1(var@0:a var@2:b) var@4:c) var@6:d)")
	reads(t, "a+b*c-d", "sub@5(add@1(var@0:a mul@3(var@2:b var@4:c)) var@6:d)")
	reads(t, "- a - -b", "sub@4(neg@0(var@2:a) neg@6(var@7:b))")
	reads(t, "-1", "neg@0(int@1=1)")
	reads(t, "-a*-b", "mul@2(neg@0(var@1:a) neg@3(var@4:b))")
	reads(t, "not - not f x", "not@0(neg@4(not@6(app@10(var@10:f var@12:x))))")
	reads(t, "not a = b", "eq@6(not@0(var@4:a) var@8:b)")
	reads(t, "f -1", "sub@2(var@0:f int@3=1)")
}

func TestP6_1_Applications(t *testing.T) {
	reads(t, "#A x", "tag@0:A(var@3:x)")
	reads(t, "#A (#B ())", "tag@0:A(tag@4:B(unit@7))")
	reads(t, "f (#A x)", "app@0(var@0:f tag@3:A(var@6:x))")
	for _, w := range []string{"ref", "len", "size", "getc", "putc"} {
		reads(t, w+" x", fmt.Sprintf("%s@0(var@%d:x)", w, len(w)+1))
		reads(t, w+"!x.y", fmt.Sprintf("%s@0(deref@%d(field@%d:y(var@%d:x)))", w, len(w), len(w)+2, len(w)+1))
	}
	for _, w := range []string{"array", "get", "byte", "cat"} {
		n := len(w)
		reads(t, w+" x y.z", fmt.Sprintf("%s@0(var@%d:x field@%d:z(var@%d:y))", w, n+1, n+4, n+3))
	}
	reads(t, "set a 1 ()", "set@0(var@4:a int@6=1 unit@8)")
	reads(t, "f 1 \"s\" true false x Foo (y) {} !z", strings.Repeat("app@0(", 9)+`var@0:f int@2=1) string@4"s") bool@8=1) bool@13) var@19:x) exn@21:Foo) var@26:y) record@29) deref@32(var@33:z))`)
	reads(t, "!!x", "deref@0(deref@1(var@2:x))")
	reads(t, "!f x", "app@0(deref@0(var@1:f) var@3:x)")
	reads(t, "!(f x)", "deref@0(app@2(var@2:f var@4:x))")
	reads(t, "r.a.b", "field@3:b(field@1:a(var@0:r))")
	reads(t, "(!r).a", "field@4:a(deref@1(var@2:r))")
	reads(t, `"s".a 1.b`, `app@3(field@3:a(string@0"s") field@7:b(int@6=1))`)
	reads(t, "(a + b) c d", "app@3(app@3(add@3(var@1:a var@5:b) var@8:c) var@10:d)")
	reads(t, "r.f x", "app@1(field@1:f(var@0:r) var@4:x)")
	reads(t, "{}.a", "field@2:a(record@0)")
	reads(t, "(ref x) y", "app@1(ref@1(var@5:x) var@8:y)")
}

func TestP6_1_Patterns(t *testing.T) {
	for pat, want := range map[string]string{
		"x": "var@13:x", "_": "any@13", "__": "var@13:__", "5": "int@13=5", "0": "int@13", "-0": "int@13", "- 7": "int@13=-7",
		"-4611686018427387903": "int@13=-4611686018427387903", `"a"`: `string@13"a"`, "true": "bool@13=1", "false": "bool@13",
		"Foo": "exn@13:Foo", "()": "unit@13", "( )": "unit@13", "(x)": "var@14:x", "((_))": "any@15",
		"#A x": "tag@13:A(var@16:x)", "#A(#B -1)": "tag@13:A(tag@16:B(int@19=-1))", "(#A _)": "tag@14:A(any@17)",
		"{}": "record@13", "{a = _}": "record@13{a}(any@18)", "{b = #A 1, a = (x), _ = {}}": "record@13{b a _}(tag@18:A(int@21=1) var@29:x record@37)",
	} {
		src := "match a with " + pat + " -> b end"
		reads(t, src, fmt.Sprintf("match@0(var@6:a)[%s -> var@%d:b]", want, len(src)-5))
		src = "try b  with  " + pat + "->c|x->d end"
		at := len(src) - 10
		reads(t, src, fmt.Sprintf("try@0(var@4:b)[%s -> var@%d:c | var@%d:x -> var@%d:d]", want, at, at+2, at+5))
	}
}

// TestP6_1_Syntax: the caret stands below the first token that is not permitted.
func TestP6_1_Syntax(t *testing.T) {
	for _, x := range [][2]string{
		{"", "^"}, {" \n ", "   ^"}, {"a b )", "    ^"}, {"a ; ", "    ^"}, {"; a", "^"},
		{"let", "   ^"}, {"let 1", "    ^"}, {"let Foo = 1 in x", "    ^"}, {"let in", "    ^"}, {"let x y", "      ^"}, {"let x = in", "        ^"},
		{"let x = 1", "         ^"}, {"let x = 1 in", "            ^"}, {"let x = 1 in in", "             ^"}, {"let _ := 1 in x", "      ^"},
		{"let rec", "       ^"}, {"let rec 1", "        ^"}, {"let rec f fun", "          ^"}, {"let rec f = x in f", "            ^"}, {"let rec f = (fun x -> x) in f", "            ^"},
		{"let rec rec = fun x -> x in f", "        ^"}, {"fun", "   ^"}, {"fun 1 -> x", "    ^"}, {"fun Foo -> x", "    ^"}, {"fun () -> x", "    ^"}, {"fun x y -> x", "      ^"}, {"fun x ->", "        ^"}, {"fun x = x", "      ^"},
		{"match x end", "        ^"}, {"match x with", "            ^"}, {"match x with end", "             ^"}, {"match x with | x -> 1 end", "             ^"}, {"match x with x -> 1", "                   ^"}, {"match x with x -> 1 | end", "                      ^"}, {"match x with x -> end", "                  ^"}, {"match x with x = 1 end", "               ^"}, {"match with", "      ^"}, {"match x with x -> 1 || y -> 2 end", "                         ^"},
		{"try x end", "      ^"}, {"try x with end", "           ^"}, {"try x with -x -> 1 end", "            ^"}, {"try with", "    ^"},
		{"if", "  ^"}, {"if a", "    ^"}, {"if a then", "         ^"}, {"if a then b", "           ^"}, {"if a then b; c else d", "           ^"}, {"if a then b else", "                ^"}, {"if a else b", "     ^"}, {"if a then b else ;", "                 ^"},
		{"raise", "     ^"}, {"raise -1", "      ^"}, {"raise raise x", "      ^"}, {"raise x y", "        ^"}, {"raise x := 1", "        ^"}, {"raise #A x", "      ^"}, {"raise not x", "      ^"}, {"raise x + 1", "        ^"}, {"raise fun x -> x", "      ^"},
		{"a :=", "    ^"}, {"a := := b", "     ^"}, {"a ||", "    ^"}, {"a || fun x -> x", "     ^"}, {"a || || b", "     ^"}, {"a && if b then c else d", "     ^"}, {"a | b", "  ^"},
		{"a = b = c", "      ^"}, {"a < b < c", "      ^"}, {"a = b < c", "      ^"}, {"a = b + c = d", "          ^"}, {"a = = b", "    ^"}, {"a =", "   ^"}, {"a = let", "    ^"},
		{"a + let x = 1 in x", "    ^"}, {"a + + b", "    ^"}, {"a + not", "       ^"}, {"a * match", "    ^"}, {"* a", "^"}, {"a /", "   ^"}, {"a % % b", "    ^"}, {"-", " ^"}, {"not", "   ^"}, {"not fun x -> x", "    ^"}, {"- raise x", "  ^"}, {"+ a", "^"},
		{"#A", "  ^"}, {"#A #B x", "   ^"}, {"#A x y", "     ^"}, {"#A -1", "   ^"}, {"#A ref x", "   ^"}, {"f #A x", "  ^"}, {"f ref x", "  ^"}, {"f not x", "  ^"}, {"f fun x -> x", "  ^"}, {"#A x #B", "     ^"},
		{"ref", "   ^"}, {"ref a b", "      ^"}, {"ref ref a", "    ^"}, {"ref -a", "    ^"}, {"len #A x", "    ^"}, {"size", "    ^"}, {"getc", "    ^"}, {"getc getc ()", "     ^"}, {"putc 1 2", "       ^"},
		{"array 1", "       ^"}, {"array 1 2 3", "          ^"}, {"get a -1", "      ^"}, {"get a get", "      ^"}, {"byte", "    ^"}, {"byte x +", "       ^"}, {"cat x", "     ^"}, {"cat x y z", "        ^"}, {"set a 1", "       ^"}, {"set a 1 2 3", "          ^"}, {"set", "   ^"}, {"set a set", "      ^"},
		{"!", " ^"}, {"! -a", "  ^"}, {"!#A x", " ^"}, {"a.", "  ^"}, {"a.1", "  ^"}, {"a.Foo", "  ^"}, {"a.let", "  ^"}, {"a.(b)", "  ^"}, {"a..b", "  ^"}, {".a", "^"}, {"a.b.", "    ^"},
		{"(", " ^"}, {"(a", "  ^"}, {"(a, b)", "  ^"}, {"(a;)", "   ^"}, {"(;)", " ^"}, {"a)", " ^"}, {"())", "  ^"}, {"(})", " ^"}, {"(a b", "    ^"},
		{"{", " ^"}, {"{a", "  ^"}, {"{a}", "  ^"}, {"{a = }", "     ^"}, {"{a = 1", "      ^"}, {"{a = 1, }", "        ^"}, {"{b = {a = 1, }", "             ^"}, {"{a = 1; }", "        ^"}, {"{, a = 1}", " ^"}, {"{a = 1, b}", "         ^"}, {"{a = 1, 1 = 2}", "        ^"}, {"{a = 1, Foo = 2}", "        ^"}, {"{a = 1, b := 2}", "          ^"}, {"{Foo = 1}", "        ^"}, {"{1 = 2}", "      ^"}, {"{)", " ^"}, {"{a.b = 1}", "        ^"},
		{"{x = 1 with y = 2}", "       ^"}, {"{x with}", "       ^"}, {"{x with y}", "         ^"}, {"{x with 1 = 2}", "        ^"}, {"{x with y = }", "            ^"}, {"{x with y = 1, z = 2}", "             ^"}, {"{x with y = 1", "             ^"}, {"{x with y = 1 with z = 2}", "              ^"}, {"{with x = 1}", " ^"}, {"{x y = 1}", "        ^"}, {"{(x) = 1}", "        ^"}, {"{x, y = 1}", "  ^"}, {"{let x = 1}", "          ^"},
		{"in", "^"}, {"with x", "^"}, {"a then", "  ^"}, {"end", "^"}, {"rec", "^"}, {"a rec", "  ^"}, {"a -> b", "  ^"}, {"a, b", " ^"}, {"a end", "  ^"}, {"= a", "^"}, {"a let x = 1 in x", "  ^"},
	} {
		fails(t, x[0], api.ErrSyntax, len(x[1])-1)
	}
}

func TestP6_1_PatternSyntax(t *testing.T) {
	for _, x := range [][2]string{
		{"-> 1 end", "^"}, {"#A -> 1 end", "   ^"}, {"#A #B x -> 1 end", "   ^"}, {"#A x y -> 1 end", "     ^"}, {"x y -> 1 end", "  ^"}, {"x.y -> 1 end", " ^"}, {"- -1 -> 1 end", "  ^"}, {"-x -> 1 end", " ^"}, {"-(1) -> 1 end", " ^"}, {"+1 -> 1 end", "^"}, {"-", " ^"},
		{"(x -> 1 end", "   ^"}, {"(x, y) -> 1 end", "  ^"}, {"( -> 1 end", "  ^"}, {"(x; y) -> 1 end", "  ^"}, {"(fun", " ^"}, {"x := 1 -> 1 end", "  ^"}, {"not true -> 1 end", "^"}, {"!x -> 1 end", "^"}, {"ref x -> 1 end", "^"}, {"1 + 2 -> 3 end", "  ^"}, {"x | y -> 1 end", "  ^"},
		{"{ -> 1 end", "  ^"}, {"{x} -> 1 end", "  ^"}, {"{x with y = 1} -> 1 end", "   ^"}, {"{x = 1, } -> 1 end", "        ^"}, {"{y = {x = 1, } -> 1 end", "             ^"}, {"{x = 1; y = 2} -> 1 end", "      ^"}, {"{1 = x} -> 1 end", " ^"}, {"{x = } -> 1 end", "     ^"}, {"{x = 1 with y = 2} -> 1 end", "       ^"}, {"{#A = x} -> 1 end", " ^"}, {"{x = 1 -> 1 end", "       ^"}, {"{x := 1} -> 1 end", "   ^"}, {"{x = 1, y} -> 1 end", "         ^"}, {"{(x) = 1} -> 1 end", " ^"}, {"{x = a = b} -> 1 end", "       ^"},
		{"x -> | y -> 1 end", "     ^"}, {"x -> 1 | | y -> 1 end", "         ^"}, {"x -> 1; end", "        ^"}, {"x -> 1 -> 2 end", "       ^"}, {"x -> 1 | y end", "           ^"}, {"x -> 1 end end", "           ^"}, {"x -> 1 end 2", "           ^"}, {"x", " ^"},
	} {
		for _, head := range []string{"match x with ", "try x; y with\n", "(match x with x -> 1 | "} {
			fails(t, head+x[0], api.ErrSyntax, len(head)+len(x[1])-1)
		}
	}
}

func TestP6_1_TokenErrors(t *testing.T) {
	fails(t, "a $", api.ErrToken, 2)
	fails(t, ") $", api.ErrToken, 2)
	fails(t, "= = 4611686018427387904", api.ErrRange, 4)
	fails(t, `let let "`, api.ErrToken, 8)
	fails(t, strings.Repeat("-", 300)+"x #", api.ErrToken, 302)
	fails(t, strings.Repeat(" ", api.MaxSource+1), api.ErrBytes, 0)
	fails(t, strings.Repeat("(", 1<<16), api.ErrBytes, 0)
	fails(t, strings.Repeat(" ", api.MaxSource), api.ErrSyntax, api.MaxSource)
	reads(t, strings.Repeat(" ", api.MaxSource-1)+"x", fmt.Sprintf("var@%d:x", api.MaxSource-1))
	for _, src := range []string{"x\t", "é", `"\q"`, "= 12a", "+ #a", `) "`} {
		_, errno, at := lex.Lex(src)
		fails(t, src, errno, at)
	}
}

// wide returns a text with that many parts: a record whose fields are of at most four parts.
func wide(parts int) string {
	var b strings.Builder
	b.WriteString("{")
	for left := parts - 1; left > 0; {
		n := min(left, 19)
		b.WriteString("a=" + strings.Repeat("!", (n-1)%3) + "a" + strings.Repeat("!a", (n-1)/3) + ",")
		left -= n
	}
	return strings.TrimSuffix(b.String(), ",") + "}"
}

func TestP6_1_Many(t *testing.T) {
	for _, n := range []int{1, 2, 3, 20, 21, 100, api.MaxNodes - 1, api.MaxNodes, api.MaxNodes + 1, api.MaxNodes + 30} {
		src := wide(n)
		if n > api.MaxNodes {
			fails(t, src, api.ErrMany, 0)
			fails(t, " "+src, api.ErrMany, 0)
			continue
		}
		e, errno, at := parse.Parse(src)
		if got := parse.Count(e, 1<<40); errno != api.OK || at != 0 || got != n {
			t.Errorf("%d parts in %d bytes: %d, %d at %d", n, len(src), got, errno, at)
		}
	}
	// Patterns count as well.
	fails(t, "match a with _->"+wide(api.MaxNodes-2)+" end", api.ErrMany, 0)
	if _, errno, _ := parse.Parse("match a with _->" + wide(api.MaxNodes-3) + " end"); errno != api.OK {
		t.Errorf("%d", errno)
	}
	// The syntax is looked at before the number of parts, and that before the depth.
	fails(t, wide(api.MaxNodes+1)+"=", api.ErrSyntax, len(wide(api.MaxNodes+1))+1)
	fails(t, "f "+strings.Repeat("!", 199)+"x"+strings.Repeat("!a", 1500), api.ErrMany, 0)
	fails(t, strings.Repeat("a ", 2046)+"!!a", api.ErrDeep, 0)
}

func TestP6_1_Deep(t *testing.T) {
	for _, n := range []int{1, 199, 200, 201, 1000, 4095} {
		for _, prefix := range []string{"-", "!"} {
			src := strings.Repeat(prefix, n) + "x"
			if n < api.MaxDepth {
				if _, errno, at := parse.Parse(src); errno != api.OK || at != 0 {
					t.Errorf("%d deep: %d at %d", n+1, errno, at)
				}
			} else {
				fails(t, src, api.ErrDeep, 200)
			}
		}
		// Parentheses leave no trace.
		if n < api.MaxSource/2 {
			reads(t, strings.Repeat("(", n)+"x"+strings.Repeat(")", n), fmt.Sprintf("var@%d:x", n))
		}
	}
	// What is deep to the left is named by its token, wherever that stands.
	fields := "x" + strings.Repeat(".a", 199)
	if _, errno, _ := parse.Parse(fields); errno != api.OK {
		t.Errorf("%d", errno)
	}
	fails(t, fields+".a", api.ErrDeep, 0)
	fails(t, fields+".a.a", api.ErrDeep, 1)
	fails(t, fields+".a.a.a", api.ErrDeep, 3)
	fails(t, "x"+strings.Repeat("-x", 200), api.ErrDeep, 0)
	fails(t, "x"+strings.Repeat("=x&&x", 200), api.ErrDeep, 5*198)
	fails(t, "x"+strings.Repeat(";x", 200), api.ErrDeep, 2*199)
	// The first in the order of the parts: arguments before arms, the pattern before the body.
	minus := func(n int) string { return strings.Repeat("-", n) }
	tags := func(n int) string { return strings.Repeat("#A(", n) + "_" + strings.Repeat(")", n) }
	one := "match " + minus(199) + "x with " + tags(199) + " -> " + minus(199) + "y end"
	fails(t, one, api.ErrDeep, 6+199)
	two := "match " + minus(198) + "x with " + tags(199) + " -> " + minus(199) + "y end"
	fails(t, two, api.ErrDeep, strings.Index(two, "_"))
	three := "match " + minus(198) + "x with " + tags(198) + " -> " + minus(199) + "y end"
	fails(t, three, api.ErrDeep, strings.Index(three, "y"))
	four := "match " + minus(198) + "x with " + tags(198) + " -> " + minus(198) + "y | z -> {a = 0, b = " + minus(198) + "z, c =" + minus(250) + "w} end"
	fails(t, four, api.ErrDeep, strings.Index(four, "z,"))
	five := "match " + minus(198) + "x with " + tags(198) + " -> " + minus(198) + "y | {a = (" + tags(197) + "), b = #B (" + tags(197) + ")} -> z end"
	fails(t, five, api.ErrDeep, strings.LastIndex(five, "_"))
	six := strings.Replace(five, "#B", "", 1)
	if _, errno, _ := parse.Parse(six); errno != api.OK {
		t.Errorf("%d", errno)
	}
}

// TestP6_1_LongTexts: neither deep nor wrong texts of full length stop it.
func TestP6_1_LongTexts(t *testing.T) {
	for _, piece := range []string{"(", "{", "{x=", "!", "-", "not ", "let x=", "let x=x in ", "let rec f=fun x->", "fun x->", "if ", "if x then ", "if x then x else ", "match ", "match x with _->", "try ", "x||", "x&&", "x;", "x:=", "f(", "#A(", "#A{a=", "match x with (", "match x with {x=", "match x with #A(", "f ", "x.", "x+", "x-", "x=", "f!", "1 ", "{x with a=", "{({", "()", "{}", "raise(", "set x x("} {
		n := api.MaxSource / len(piece)
		for _, src := range []string{strings.Repeat(piece, n), strings.Repeat(piece, n-1) + "x", "match x with " + strings.Repeat(piece, n-16)} {
			e, errno, at := parse.Parse(src)
			if errno == api.OK || errno == api.ErrToken || at < 0 || at > len(src) || e.Kind != 0 {
				t.Errorf("%q..: %d at %d", piece, errno, at)
			}
		}
	}
}

func TestP6_1_RandomTexts(t *testing.T) {
	r := rand.New(rand.NewSource(6))
	kinds := map[int]int{}
	for i := range 20000 {
		src, want := randomText(r, 1+i/2500)
		if len(src) > api.MaxSource || parse.Count(want, api.MaxNodes) > api.MaxNodes {
			continue
		}
		got, errno, at := parse.Parse(src)
		if errno != api.OK || at != 0 || !reflect.DeepEqual(got, want) {
			t.Fatalf("%s\n%s, %d at %d, want\n%s", src, dump(got), errno, at, dump(want))
		}
		kinds[got.Kind]++
	}
	for k := api.EVar; k <= api.EOr; k++ {
		if kinds[k] == 0 {
			t.Errorf("no %s", exprNames[k])
		}
	}
}

// orderly lists the depths and places of an expression's parts in the order that the chapter states.
func orderly(e api.Expr) [][2]int {
	var l [][2]int
	var pat func(p api.Pat, depth int)
	pat = func(p api.Pat, depth int) {
		l = append(l, [2]int{depth, p.At})
		for _, a := range p.Args {
			pat(a, depth+1)
		}
	}
	var expr func(e api.Expr, depth int)
	expr = func(e api.Expr, depth int) {
		l = append(l, [2]int{depth, e.At})
		for _, a := range e.Args {
			expr(a, depth+1)
		}
		for _, a := range e.Arms {
			pat(a.P, depth+1)
			expr(a.Body, depth+1)
		}
	}
	expr(e, 1)
	return l
}

// arbitrary returns an expression that no text says.
func arbitrary(r *rand.Rand, depth int) api.Expr {
	e := api.Expr{Kind: r.Intn(30) - 3, At: r.Intn(1000) - 100, N: r.Int63(), Labels: make([]string, r.Intn(3))}
	if depth <= 1 {
		return e
	}
	for range r.Intn(4) {
		e.Args = append(e.Args, arbitrary(r, depth-1-r.Intn(3)))
	}
	for range max(0, r.Intn(5)-2) {
		e.Arms = append(e.Arms, api.Arm{P: arbitraryPat(r, depth-1-r.Intn(3)), Body: arbitrary(r, depth-1-r.Intn(3))})
	}
	return e
}

func arbitraryPat(r *rand.Rand, depth int) api.Pat {
	p := api.Pat{Kind: r.Intn(20) - 3, At: r.Intn(1000) - 100}
	for range max(0, min(depth, r.Intn(4))) {
		p.Args = append(p.Args, arbitraryPat(r, depth-1-r.Intn(2)))
	}
	return p
}

const (
	largest  = int(^uint(0) >> 1)
	smallest = -largest - 1
)

func TestP6_2_Parts(t *testing.T) {
	r := rand.New(rand.NewSource(2))
	for range 3000 {
		e := arbitrary(r, r.Intn(7))
		all := orderly(e)
		for _, most := range []int{smallest, -2, -1, 0, 1, 2, 3, 4, 5, 6, 7, 8, len(all) - 1, len(all), len(all) + 1, 1 << 40, largest} {
			want := min(max(most, -1), len(all)-1) + 1
			if got := parse.Count(e, most); got != want {
				t.Fatalf("%s: Count of most %d: %d, want %d", fmt.Sprint(e), most, got, want)
			}
			place, found := 0, false
			for _, x := range all {
				if x[0] > most {
					place, found = x[1], true
					break
				}
			}
			if at, deep := parse.Deep(e, most); at != place || deep != found {
				t.Fatalf("%s: Deep of most %d: %d, %v, want %d, %v", fmt.Sprint(e), most, at, deep, place, found)
			}
		}
	}
}

func TestP6_2_Zero(t *testing.T) {
	if n := parse.Count(api.Expr{}, 5); n != 1 {
		t.Errorf("%d", n)
	}
	if at, deep := parse.Deep(api.Expr{At: 7}, 0); at != 7 || !deep {
		t.Errorf("%d, %v", at, deep)
	}
	if at, deep := parse.Deep(api.Expr{At: 7}, 1); at != 0 || deep {
		t.Errorf("%d, %v", at, deep)
	}
}

// TestP6_2_Huge: expressions that are far deeper or wider than those of Parse, and one that contains itself.
func TestP6_2_Huge(t *testing.T) {
	defer debug.SetMaxStack(debug.SetMaxStack(1 << 20))
	const n = 1 << 16
	deep := api.Expr{At: n}
	left := api.Expr{At: n}
	arms := api.Expr{At: n}
	pat := api.Pat{At: n}
	for i := n - 1; i > 0; i-- {
		deep = api.Expr{At: i, Args: []api.Expr{deep}}
		left = api.Expr{At: i, Args: []api.Expr{left, {At: -i}}}
		arms = api.Expr{At: i, Arms: []api.Arm{{P: api.Pat{At: n}, Body: arms}}}
		pat = api.Pat{At: i, Args: []api.Pat{pat, {At: -i}}}
	}
	inPat := api.Expr{Arms: []api.Arm{{P: pat}}}
	for name, x := range map[string]struct {
		e     api.Expr
		count int
		depth int
	}{
		"deep": {deep, n, n}, "left": {left, 2*n - 1, n}, "arms": {arms, 2*n - 1, n}, "pat": {inPat, 2*n + 1, n + 1},
		"wide": {api.Expr{Args: make([]api.Expr, n)}, n + 1, 2}, "wide arms": {api.Expr{Arms: make([]api.Arm, n)}, 2*n + 1, 2},
	} {
		if got := parse.Count(x.e, largest); got != x.count {
			t.Errorf("%s: %d", name, got)
		}
		if got := parse.Count(x.e, 1000); got != 1001 {
			t.Errorf("%s: %d", name, got)
		}
		if at, found := parse.Deep(x.e, x.depth); at != 0 || found {
			t.Errorf("%s: %d, %v", name, at, found)
		}
		if at, found := parse.Deep(x.e, x.depth-1); !found || x.depth >= n && at != n {
			t.Errorf("%s: %d, %v", name, at, found)
		}
	}
	loop := api.Expr{Args: make([]api.Expr, 1000)}
	for i := range loop.Args {
		loop.Args[i] = api.Expr{At: i, Args: loop.Args}
	}
	if got := parse.Count(loop, n); got != n+1 {
		t.Errorf("%d", got)
	}
	if at, found := parse.Deep(loop, 1000); at != 0 || !found {
		t.Errorf("%d, %v", at, found)
	}
}

// unplaced returns an expression with all its places set to 0.
func unplaced(e api.Expr) api.Expr {
	e.At = 0
	var args []api.Expr
	for _, a := range e.Args {
		args = append(args, unplaced(a))
	}
	var arms []api.Arm
	for _, a := range e.Arms {
		arms = append(arms, api.Arm{P: unplacedPat(a.P), Body: unplaced(a.Body)})
	}
	e.Args, e.Arms = args, arms
	return e
}

func unplacedPat(p api.Pat) api.Pat {
	p.At = 0
	var args []api.Pat
	for _, a := range p.Args {
		args = append(args, unplacedPat(a))
	}
	p.Args = args
	return p
}

func TestP6_3_Spaces(t *testing.T) {
	r := rand.New(rand.NewSource(9))
	for range 3000 {
		src, e := randomText(r, 1+r.Intn(6))
		want := unplaced(e)
		words := tokenTexts(src)
		for _, other := range []string{strings.Join(words, " "), "\n " + strings.Join(words, "\n  ") + "\n", printed(r, &e), "(" + src + ")", " ( " + src + "\n) "} {
			if len(other) > api.MaxSource {
				continue
			}
			if got, errno, at := parse.Parse(other); errno != api.OK || at != 0 || !reflect.DeepEqual(unplaced(got), want) {
				t.Fatalf("%q, then %q: %d at %d", src, other, errno, at)
			}
		}
	}
	// Limits do not count what leaves no trace.
	for n := api.MaxDepth - 1; n <= api.MaxDepth; n++ {
		src := strings.Repeat("- ", n) + "x"
		_, errno, at := parse.Parse(src)
		_, other, place := parse.Parse("((" + strings.ReplaceAll(src, " ", "(((") + strings.Repeat(")))", n) + "))")
		if errno != other || at != 0 && place != 2+4*n {
			t.Errorf("%d at %d, %d at %d", errno, at, other, place)
		}
	}
}

// randomTokens returns a text of so many tokens in any order.
func randomTokens(r *rand.Rand, n int) string {
	words := strings.Fields("let rec in fun match with end if then else true false raise try not ref array get set len size byte cat getc putc -> := && || ( ) { } = ; , . | + - * / % < ! x y _ 0 1 Foo #A \"s\" ( ) x x 1 # $ 4611686018427387904")
	var l []string
	for range n {
		l = append(l, words[r.Intn(len(words)-r.Intn(2)*3)])
	}
	return strings.Join(l, " ")
}

// TestP1_Rules: no call panics, an error leaves nothing else, and neither earlier calls nor others at the same time change a result.
func TestP1_Rules(t *testing.T) {
	type result struct {
		e     api.Expr
		errno api.Errno
		at    int
		count int
		place int
		deep  bool
	}
	run := func() []result {
		r := rand.New(rand.NewSource(1))
		var l []result
		for i := range 4000 {
			src := randomTokens(r, r.Intn(2+i/200))
			if i%3 == 0 {
				src, _ = randomText(r, 1+i/400)
			}
			if i%100 == 0 {
				src = strings.Repeat([]string{"-", "x ", "!x", "(", ";", "x;"}[i/100%6], i)
				src += "x"
			}
			var x result
			x.e, x.errno, x.at = parse.Parse(src)
			x.count = parse.Count(x.e, r.Intn(100)-5)
			x.place, x.deep = parse.Deep(x.e, r.Intn(10)-2)
			l = append(l, x)
		}
		return l
	}
	first := run()
	errors := map[api.Errno]int{}
	for _, x := range first {
		errors[x.errno]++
		if x.errno != api.OK && !reflect.DeepEqual(x.e, api.Expr{}) || x.errno == api.OK && (x.at != 0 || x.e.Kind == 0) || !x.deep && x.place != 0 {
			t.Fatalf("%+v", x)
		}
	}
	for _, e := range []api.Errno{api.OK, api.ErrBytes, api.ErrToken, api.ErrRange, api.ErrSyntax, api.ErrMany, api.ErrDeep} {
		if errors[e] == 0 {
			t.Errorf("no call returned %d", e)
		}
	}
	var wait sync.WaitGroup
	for range 4 {
		wait.Go(func() {
			if again := run(); !reflect.DeepEqual(again, first) {
				t.Error("another result")
			}
		})
	}
	wait.Wait()
}

// A span is a piece of memory.
type span struct{ from, to uintptr }

func spanOf[T any](l []T) span {
	from := uintptr(unsafe.Pointer(unsafe.SliceData(l)))
	var x T
	return span{from, from + uintptr(cap(l))*unsafe.Sizeof(x)}
}

func spanOfText(s string) span {
	from := uintptr(unsafe.Pointer(unsafe.StringData(s)))
	return span{from, from + uintptr(len(s))}
}

// spans lists the memory of all lists of an expression, and that of its texts.
func spans(e api.Expr) (lists, texts []span) {
	add := func(labels []string, name, s string) {
		lists = append(lists, spanOf(labels))
		for _, x := range append([]string{name, s}, labels...) {
			texts = append(texts, spanOfText(x))
		}
	}
	var pat func(p api.Pat)
	pat = func(p api.Pat) {
		add(p.Labels, p.Name, p.S)
		lists = append(lists, spanOf(p.Args))
		for _, a := range p.Args {
			pat(a)
		}
	}
	var expr func(e api.Expr)
	expr = func(e api.Expr) {
		add(e.Labels, e.Name, e.S)
		lists = append(lists, spanOf(e.Args), spanOf(e.Arms))
		for _, a := range e.Args {
			expr(a)
		}
		for _, a := range e.Arms {
			pat(a.P)
			expr(a.Body)
		}
	}
	expr(e)
	return lists, texts
}

func TestP1_OwnMemory(t *testing.T) {
	r := rand.New(rand.NewSource(4))
	for range 300 {
		src, _ := randomText(r, 5)
		e, _, _ := parse.Parse(src)
		other, _, _ := parse.Parse(src)
		lists, texts := spans(e)
		more, _ := spans(other)
		all := append(lists, more...)
		for i, a := range all {
			for _, b := range all[:i] {
				if a.from < b.to && b.from < a.to {
					t.Fatalf("%q: two lists share memory", src)
				}
			}
		}
		whole := spanOfText(src)
		for _, a := range texts {
			if a.from < whole.to && whole.from < a.to {
				t.Fatalf("%q: a text is a piece of the source", src)
			}
		}
		// What is passed to Count and Deep stays as it is.
		parse.Count(e, 1000)
		parse.Deep(e, 3)
		parse.Deep(e, 1000)
		if !reflect.DeepEqual(e, other) {
			t.Fatalf("%q: changed", src)
		}
	}
}
