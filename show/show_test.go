package show_test

import (
	"fmt"
	"math/rand"
	"reflect"
	"runtime/debug"
	"strings"
	"sync"
	"testing"
	"unsafe"

	"marquetry/api"
	"marquetry/parse"
	"marquetry/show"
)

func v(name string) api.Expr { return api.Expr{Kind: api.EVar, Name: name} }

func of(kind int, name string, args ...api.Expr) api.Expr {
	return api.Expr{Kind: kind, Name: name, Args: args}
}

func op(n int64, args ...api.Expr) api.Expr { return api.Expr{Kind: api.EOp, N: n, Args: args} }

// in returns an expression with a pattern inside.
func in(p api.Pat) api.Expr {
	return api.Expr{Kind: api.EMatch, Args: []api.Expr{v("x")}, Arms: []api.Arm{{P: p, Body: v("y")}}}
}

// shows fails if an expression's text is another one, or is not read as the expression.
func shows(t *testing.T, e api.Expr, want string) {
	t.Helper()
	got, errno := show.Show(e)
	if got != want || errno != api.OK {
		t.Errorf("%.60q: %.60q, %d", want, got, errno)
	}
	if again, errno, at := parse.Parse(want); errno != api.OK || !reflect.DeepEqual(plain(again), plain(e)) {
		t.Errorf("%.60q is not read as it: %d at %d", want, errno, at)
	}
}

// refuses fails if an expression is not refused with this error.
func refuses(t *testing.T, e api.Expr, want api.Errno) {
	t.Helper()
	if got, errno := show.Show(e); got != "" || errno != want {
		t.Errorf("%.99s: %.60q, %d, want %d", fmt.Sprint(e), got, errno, want)
	}
}

func showsPat(t *testing.T, p api.Pat, want string) {
	t.Helper()
	if got, errno := show.Pattern(p); got != want || errno != api.OK {
		t.Errorf("%.60q: %.60q, %d", want, got, errno)
	}
	if len(want) < api.MaxSource-30 {
		shows(t, in(p), "(match x with "+want+" -> y end)")
	}
}

func refusesPat(t *testing.T, p api.Pat, want api.Errno) {
	t.Helper()
	if got, errno := show.Pattern(p); got != "" || errno != want {
		t.Errorf("%.99s: %.60q, %d, want %d", fmt.Sprint(p), got, errno, want)
	}
}

func TestExamples(t *testing.T) {
	for src, want := range map[string]string{
		"f x + 1":                       "((f x) + 1)",
		"let rec f = fun x -> f x in f": "(let rec f = fun x -> (f x) in f)",
		"{r.a with b = -1; 2}":          "{r.a with b = ((- 1); 2)}",
	} {
		e, _, _ := parse.Parse(src)
		shows(t, e, want)
	}
	refuses(t, v("let"), api.ErrForm)
	refuses(t, api.Expr{Kind: api.EInt, N: -1}, api.ErrForm)
	refuses(t, of(api.EMatch, "", v("x")), api.ErrForm)
}

func TestP7_1_Leaves(t *testing.T) {
	for _, s := range []string{"x", "_", "__", "a_9Z", "lets", "_in"} {
		shows(t, v(s), s)
	}
	for _, s := range []string{"A", "Foo", "Z_9z", "LET", "T__", "Let", "Array", "Ref", "True"} {
		shows(t, of(api.EExn, s), s)
	}
	for n, want := range map[int64]string{0: "0", 7: "7", 1<<62 - 1: "4611686018427387903"} {
		shows(t, api.Expr{Kind: api.EInt, N: n}, want)
	}
	shows(t, api.Expr{Kind: api.EBool, N: 1}, "true")
	shows(t, api.Expr{Kind: api.EBool}, "false")
	shows(t, of(api.EUnit, ""), "()")
	shows(t, api.Expr{Kind: api.EString}, `""`)
	shows(t, api.Expr{Kind: api.EString, S: "a\"\\\n\x00\xff é"}, `"a\"\\\n\x00\xff \xc3\xa9"`)
	// An empty list is as good as none, and places do not matter.
	shows(t, api.Expr{Kind: api.EVar, At: -5, Name: "x", Labels: []string{}, Args: []api.Expr{}, Arms: []api.Arm{}}, "x")
}

func TestP7_1_Texts(t *testing.T) {
	a, b, c := v("a"), v("b"), v("c")
	fun := of(api.EFun, "x", a)
	shows(t, fun, "(fun x -> a)")
	shows(t, of(api.EFun, "_", fun), "(fun _ -> (fun x -> a))")
	shows(t, of(api.EApp, "", a, b), "(a b)")
	shows(t, of(api.EApp, "", a, of(api.EApp, "", b, fun)), "(a (b (fun x -> a)))")
	shows(t, of(api.ELet, "x", a, b), "(let x = a in b)")
	shows(t, of(api.ELet, "_", fun, fun), "(let _ = (fun x -> a) in (fun x -> a))")
	shows(t, of(api.ERec, "f", fun, b), "(let rec f = fun x -> a in b)")
	shows(t, of(api.ERec, "_", of(api.EFun, "_", fun), fun), "(let rec _ = fun _ -> (fun x -> a) in (fun x -> a))")
	shows(t, of(api.EIf, "", a, b, c), "(if a then b else c)")
	shows(t, of(api.ERecord, ""), "{}")
	shows(t, api.Expr{Kind: api.ERecord, Labels: []string{"x"}, Args: []api.Expr{a}}, "{x = a}")
	shows(t, api.Expr{Kind: api.ERecord, Labels: []string{"z", "_", "z"}, Args: []api.Expr{a, fun, c}}, "{z = a, _ = (fun x -> a), z = c}")
	shows(t, of(api.EWith, "x", a, b), "{a with x = b}")
	shows(t, of(api.EWith, "_", of(api.EWith, "x", a, b), of(api.ERecord, "")), "{{a with x = b} with _ = {}}")
	shows(t, of(api.EField, "x", a), "a.x")
	shows(t, of(api.EField, "_", of(api.EField, "y", api.Expr{Kind: api.EInt, N: 5})), "5.y._")
	shows(t, of(api.EField, "x", of(api.ERecord, "")), "{}.x")
	shows(t, of(api.EField, "x", of(api.EApp, "", a, b)), "(a b).x")
	shows(t, of(api.ETag, "A", a), "(#A a)")
	shows(t, of(api.ETag, "Foo", of(api.ETag, "B", of(api.EUnit, ""))), "(#Foo (#B ()))")
	shows(t, of(api.ERaise, "", of(api.EExn, "Foo")), "(raise Foo)")
	shows(t, of(api.ESeq, "", a, of(api.ESeq, "", b, c)), "(a; (b; c))")
	shows(t, of(api.ESeq, "", of(api.ESeq, "", a, b), c), "((a; b); c)")
	shows(t, of(api.EAnd, "", a, of(api.EOr, "", b, c)), "(a && (b || c))")
	one := api.Arm{P: api.Pat{Kind: api.PAny}, Body: fun}
	two := api.Arm{P: api.Pat{Kind: api.PVar, Name: "z"}, Body: of(api.ESeq, "", a, b)}
	for kind, word := range map[int]string{api.EMatch: "match", api.ETry: "try"} {
		shows(t, api.Expr{Kind: kind, Args: []api.Expr{a}, Arms: []api.Arm{one}}, "("+word+" a with _ -> (fun x -> a) end)")
		shows(t, api.Expr{Kind: kind, Args: []api.Expr{fun}, Arms: []api.Arm{one, two, one}}, "("+word+" (fun x -> a) with _ -> (fun x -> a) | z -> (a; b) | _ -> (fun x -> a) end)")
	}
}

func TestP7_1_Operations(t *testing.T) {
	a, b, c := v("a"), v("b"), v("c")
	for n, want := range map[int64]string{
		api.OpAdd: "(a + b)", api.OpSub: "(a - b)", api.OpMul: "(a * b)", api.OpDiv: "(a / b)", api.OpRem: "(a % b)",
		api.OpEq: "(a = b)", api.OpLt: "(a < b)", api.OpAssign: "(a := b)",
		api.OpNeg: "(- a)", api.OpNot: "(not a)", api.OpDeref: "(! a)",
		api.OpRef: "(ref a)", api.OpLen: "(len a)", api.OpSize: "(size a)", api.OpGetc: "(getc a)", api.OpPutc: "(putc a)",
		api.OpArray: "(array a b)", api.OpGet: "(get a b)", api.OpByte: "(byte a b)", api.OpCat: "(cat a b)",
		api.OpSet: "(set a b c)",
	} {
		args := []api.Expr{a, b, c, a}
		for i := range 5 {
			if i == operands[n] {
				shows(t, op(n, args[:i]...), want)
			} else {
				refuses(t, op(n, args[:i]...), api.ErrForm)
			}
		}
		// A number that only has the same low bits is none.
		refuses(t, op(n+1<<32, args[:operands[n]]...), api.ErrForm)
		refuses(t, op(-n, args[:operands[n]]...), api.ErrForm)
		shows(t, op(api.OpNeg, op(n, args[:operands[n]]...)), "(- "+want+")")
		shows(t, of(api.EField, "x", op(n, args[:operands[n]]...)), want+".x")
	}
	for _, n := range []int64{0, api.OpPutc + 1, 1<<63 - 1, -1 << 63} {
		for i := range 4 {
			refuses(t, op(n, []api.Expr{a, b, c}[:i]...), api.ErrForm)
		}
	}
}

func TestP7_1_Names(t *testing.T) {
	wrong := []string{"", "A", "Foo", "1", "9a", "a b", " a", "a ", "a\n", "a.b", "a-", "é", "aé", "a\x00", "a\xff", "#a", "(a)", "a'"}
	wrong = append(wrong, strings.Fields("let rec in fun match with end if then else true false raise try not ref array get set len size byte cat getc putc")...)
	a := v("a")
	fun := of(api.EFun, "x", a)
	for _, s := range wrong {
		for _, e := range []api.Expr{v(s), of(api.EFun, s, a), of(api.ELet, s, a, a), of(api.ERec, s, fun, a), of(api.ERec, "f", of(api.EFun, s, a), a), of(api.EWith, s, a, a), of(api.EField, s, a), {Kind: api.ERecord, Labels: []string{s}, Args: []api.Expr{a}}, {Kind: api.ERecord, Labels: []string{"a", s}, Args: []api.Expr{a, a}}, in(api.Pat{Kind: api.PVar, Name: s})} {
			refuses(t, e, api.ErrForm)
		}
		refusesPat(t, api.Pat{Kind: api.PVar, Name: s}, api.ErrForm)
		refusesPat(t, api.Pat{Kind: api.PRecord, Labels: []string{s}, Args: []api.Pat{{Kind: api.PAny}}}, api.ErrForm)
	}
	for _, s := range []string{"", "a", "_", "_A", "let", "1A", "A b", "A ", " A", "A.b", "A-", "É", "Aé", "A\x00", "A\xff", "#A", "A\n", "`", "@A", "[A", "{A"} {
		refuses(t, of(api.EExn, s), api.ErrForm)
		refuses(t, of(api.ETag, s, a), api.ErrForm)
		refusesPat(t, api.Pat{Kind: api.PExn, Name: s}, api.ErrForm)
		refusesPat(t, api.Pat{Kind: api.PTag, Name: s, Args: []api.Pat{{Kind: api.PAny}}}, api.ErrForm)
	}
	for c := range 256 {
		s := "A" + string([]byte{byte(c)})
		_, errno := show.Show(of(api.EExn, s))
		nameByte := c == '_' || c >= '0' && c <= '9' || c|32 >= 'a' && c|32 <= 'z'
		if nameByte != (errno == api.OK) {
			t.Errorf("%q: %d", s, errno)
		}
	}
}

// TestP7_1_Form: what no text says, at the edges of each rule.
func TestP7_1_Form(t *testing.T) {
	a := v("a")
	fun := of(api.EFun, "x", a)
	for _, kind := range []int{0, -1, api.EOr + 1, 99, largest, smallest} {
		refuses(t, of(kind, ""), api.ErrForm)
		refuses(t, of(kind, "a", a), api.ErrForm)
	}
	for _, n := range []int64{-1, -1 << 62, -1 << 63, 1 << 62, 1<<63 - 1} {
		refuses(t, api.Expr{Kind: api.EInt, N: n}, api.ErrForm)
	}
	for _, n := range []int64{-1, 2, 1 << 32, -1 << 63} {
		refuses(t, api.Expr{Kind: api.EBool, N: n}, api.ErrForm)
		refusesPat(t, api.Pat{Kind: api.PBool, N: n}, api.ErrForm)
	}
	for _, first := range []api.Expr{a, of(api.EUnit, ""), of(api.EApp, "", fun, a), {Kind: api.EFun, Name: "x"}, of(api.EFun, "x", a, a), {Kind: api.EFun, Name: "x", N: 1, Args: []api.Expr{a}}, {Kind: api.EFun, Name: "x", Args: []api.Expr{a}, Arms: make([]api.Arm, 1)}, {}} {
		refuses(t, of(api.ERec, "f", first, a), api.ErrForm)
	}
	refuses(t, of(api.ERec, "f"), api.ErrForm)
	refuses(t, of(api.ERec, "f", fun), api.ErrForm)
	refuses(t, of(api.ERec, "f", fun, a, a), api.ErrForm)
	for labels := range 3 {
		for args := range 3 {
			e := api.Expr{Kind: api.ERecord, Labels: []string{"x", "y"}[:labels], Args: []api.Expr{a, a}[:args]}
			p := api.Pat{Kind: api.PRecord, Labels: e.Labels, Args: []api.Pat{{Kind: api.PAny}, {Kind: api.PAny}}[:args]}
			if labels != args {
				refuses(t, e, api.ErrForm)
				refusesPat(t, p, api.ErrForm)
			}
		}
	}
	for _, kind := range []int{api.EMatch, api.ETry} {
		refuses(t, of(kind, "", a), api.ErrForm)
		refuses(t, api.Expr{Kind: kind, Arms: in(api.Pat{Kind: api.PAny}).Arms}, api.ErrForm)
		refuses(t, api.Expr{Kind: kind, Args: []api.Expr{a, a}, Arms: in(api.Pat{Kind: api.PAny}).Arms}, api.ErrForm)
	}
}

// TestP7_1_OtherFields: each field that a kind does not have, and each number of Args that it does not have.
func TestP7_1_OtherFields(t *testing.T) {
	a := v("a")
	arms := in(api.Pat{Kind: api.PAny}).Arms
	all := []api.Expr{{Kind: api.EInt, N: 3}, {Kind: api.EString, S: "s"}, {Kind: api.EBool, N: 1}, op(api.OpAdd, a, a), op(api.OpSet, a, a, a), op(api.OpRef, a), {Kind: api.ERecord, Labels: []string{"x"}, Args: []api.Expr{a}}, of(api.ERecord, ""), of(api.ERec, "f", of(api.EFun, "x", a), a)}
	for _, s := range simple {
		e := of(s.kind, s.name, []api.Expr{a, a, a}[:s.args]...)
		if s.kind == api.EMatch || s.kind == api.ETry {
			e.Arms = arms
		}
		all = append(all, e)
	}
	for _, e := range all {
		if _, errno := show.Show(e); errno != api.OK {
			t.Errorf("%+v: %d", e, errno)
		}
		spoiled := []func(x *api.Expr){func(x *api.Expr) { x.Args = append([]api.Expr{a}, x.Args...) }, func(x *api.Expr) { x.Args = append(x.Args[:len(x.Args):len(x.Args)], a) }, func(x *api.Expr) { x.Labels = append([]string{"l"}, x.Labels...) }}
		if e.Name == "" {
			spoiled = append(spoiled, func(x *api.Expr) { x.Name = "x" }, func(x *api.Expr) { x.Name = "X" }, func(x *api.Expr) { x.Name = "_" })
		} else {
			spoiled = append(spoiled, func(x *api.Expr) { x.Name = "" })
		}
		if e.Kind != api.EInt && e.Kind != api.EBool {
			spoiled = append(spoiled, func(x *api.Expr) { x.N += 32 }, func(x *api.Expr) { x.N -= 64 }, func(x *api.Expr) { x.N += -1 << 63 })
		}
		if e.Kind != api.EString {
			spoiled = append(spoiled, func(x *api.Expr) { x.S = "s" }, func(x *api.Expr) { x.S = "\x00" })
		}
		if len(e.Arms) == 0 {
			spoiled = append(spoiled, func(x *api.Expr) { x.Arms = arms }, func(x *api.Expr) { x.Arms = make([]api.Arm, 1) })
		}
		if len(e.Args) > 0 {
			spoiled = append(spoiled, func(x *api.Expr) { x.Args = x.Args[1:] }, func(x *api.Expr) { x.Args = nil; x.Labels = append(x.Labels, "z") })
		}
		for i, spoil := range spoiled {
			x := e
			spoil(&x)
			if got, errno := show.Show(x); errno != api.ErrForm || got != "" {
				t.Errorf("%+v, %d: %q, %d", x, i, got, errno)
			}
			// A fault is found wherever it is.
			for _, outer := range []api.Expr{of(api.ETag, "A", x), of(api.EApp, "", a, x), of(api.EIf, "", x, a, a), {Kind: api.ERecord, Labels: []string{"k", "l"}, Args: []api.Expr{a, x}}, {Kind: api.ETry, Args: []api.Expr{a}, Arms: []api.Arm{{P: api.Pat{Kind: api.PAny}, Body: x}}}, of(api.ERec, "f", of(api.EFun, "x", x), a)} {
				refuses(t, outer, api.ErrForm)
			}
		}
	}
}

// chain nests an expression in n others.
func chain(n int, e api.Expr) api.Expr {
	for range n {
		e = op(api.OpNeg, e)
	}
	return e
}

// row is a record of so many parts that a text has no room for them.
func row(parts int, last api.Expr) api.Expr {
	e := of(api.ERecord, "")
	for range parts - 1 {
		e.Labels = append(e.Labels, "l")
		e.Args = append(e.Args, v("a"))
	}
	e.Args[len(e.Args)-1] = last
	return e
}

func TestP7_1_Order(t *testing.T) {
	bad := v("let")
	refuses(t, row(api.MaxNodes, v("a")), api.ErrBytes)
	refuses(t, row(api.MaxNodes, bad), api.ErrForm)
	refuses(t, row(api.MaxNodes+1, v("a")), api.ErrMany)
	refuses(t, row(api.MaxNodes+1, bad), api.ErrMany)
	// What no kind has counts as well.
	refuses(t, api.Expr{Args: make([]api.Expr, api.MaxNodes)}, api.ErrMany)
	refuses(t, api.Expr{Args: make([]api.Expr, api.MaxNodes-1)}, api.ErrForm)
	refuses(t, api.Expr{Arms: make([]api.Arm, api.MaxNodes/2)}, api.ErrMany)
	refuses(t, api.Expr{Arms: []api.Arm{{P: api.Pat{Args: make([]api.Pat, api.MaxNodes-2)}}}}, api.ErrMany)
	refuses(t, api.Expr{Arms: []api.Arm{{P: api.Pat{Args: make([]api.Pat, api.MaxNodes-3)}}}}, api.ErrForm)
	for _, n := range []int{0, 1, 198, 199} {
		shows(t, chain(n, v("x")), strings.Repeat("(- ", n)+"x"+strings.Repeat(")", n))
		refuses(t, chain(n, bad), api.ErrForm)
		refuses(t, chain(n, v(strings.Repeat("x", api.MaxSource-4*n+1))), api.ErrBytes)
	}
	for _, n := range []int{200, 201, 1000} {
		refuses(t, chain(n, v("x")), api.ErrDeep)
		refuses(t, chain(n, bad), api.ErrDeep)
		refuses(t, chain(n, v(strings.Repeat("x", api.MaxSource))), api.ErrDeep)
	}
	refuses(t, chain(200, row(api.MaxNodes-200, bad)), api.ErrDeep)
	refuses(t, chain(200, row(api.MaxNodes-199, bad)), api.ErrMany)
	refuses(t, chain(api.MaxNodes, bad), api.ErrMany)
	// A fault behind what is too long already is told first.
	long := v(strings.Repeat("x", api.MaxSource+1))
	for _, wrong := range []api.Expr{bad, {}, {Kind: api.EInt, N: -1}, {Kind: api.EMatch, Args: []api.Expr{long}}, v(long.Name + "-"), of(api.EExn, "A"+long.Name+"-")} {
		refuses(t, of(api.EApp, "", long, wrong), api.ErrForm)
		refuses(t, of(api.EApp, "", wrong, long), api.ErrForm)
		refuses(t, row(api.MaxNodes-1, wrong), api.ErrForm) // One of them has two parts.
	}
	refuses(t, in(api.Pat{Kind: api.PVar, Name: "_"}), api.ErrForm)
	refuses(t, api.Expr{Kind: api.EMatch, Args: []api.Expr{long}, Arms: in(api.Pat{Kind: api.PVar, Name: "_"}).Arms}, api.ErrForm)
}

func TestP7_1_Bytes(t *testing.T) {
	long := func(n int) string { return strings.Repeat("a", n) }
	for name, make := range map[string]func(n int) api.Expr{
		"name":   func(n int) api.Expr { return v(long(n)) },
		"upper":  func(n int) api.Expr { return of(api.EExn, "A"+long(n-1)) },
		"string": func(n int) api.Expr { return api.Expr{Kind: api.EString, S: long(n - 2)} },
		"escapes": func(n int) api.Expr {
			return api.Expr{Kind: api.EString, S: strings.Repeat("\xff", (n-6)/4) + long(4+(n-6)%4)}
		},
		"label": func(n int) api.Expr { return of(api.EField, long(n-2), v("x")) },
		"field": func(n int) api.Expr {
			return api.Expr{Kind: api.ERecord, Labels: []string{long(n - 6)}, Args: []api.Expr{v("x")}}
		},
		"tag":     func(n int) api.Expr { return of(api.ETag, "A"+long(n-6), v("x")) },
		"two":     func(n int) api.Expr { return of(api.EApp, "", v(long(1000)), v(long(n-1003))) },
		"pattern": func(n int) api.Expr { return in(api.Pat{Kind: api.PVar, Name: long(n - 24)}) },
	} {
		for _, n := range []int{api.MaxSource - 1, api.MaxSource} {
			got, errno := show.Show(make(n))
			if len(got) != n || errno != api.OK || got != said(make(n)) {
				t.Errorf("%s: %d bytes, want %d, %d", name, len(got), n, errno)
			}
		}
		for _, n := range []int{api.MaxSource + 1, api.MaxSource + 2, 3 * api.MaxSource, 1 << 20} {
			if got, errno := show.Show(make(n)); got != "" || errno != api.ErrBytes {
				t.Errorf("%s: %d of %d bytes, %d", name, len(got), n, errno)
			}
		}
	}
	// The last byte may be one of the form.
	shows(t, of(api.ERaise, "", v(long(api.MaxSource-8))), "(raise "+long(api.MaxSource-8)+")")
	refuses(t, of(api.ERaise, "", v(long(api.MaxSource-7))), api.ErrBytes)
}

func TestP7_2_Texts(t *testing.T) {
	any, z := api.Pat{Kind: api.PAny}, api.Pat{Kind: api.PVar, Name: "z"}
	showsPat(t, any, "_")
	showsPat(t, api.Pat{Kind: api.PAny, At: 9, Labels: []string{}, Args: []api.Pat{}}, "_")
	for _, s := range []string{"x", "__", "_1", "a_9Z", "lets"} {
		showsPat(t, api.Pat{Kind: api.PVar, Name: s}, s)
	}
	for n, want := range map[int64]string{0: "0", 5: "5", -5: "-5", -1: "-1", 1<<62 - 1: "4611686018427387903", 1 - 1<<62: "-4611686018427387903"} {
		showsPat(t, api.Pat{Kind: api.PInt, N: n}, want)
		showsPat(t, api.Pat{Kind: api.PTag, Name: "A", Args: []api.Pat{{Kind: api.PInt, N: n}}}, "(#A "+want+")")
	}
	for _, n := range []int64{1 << 62, -1 << 62, 1<<63 - 1, -1 << 63} {
		refusesPat(t, api.Pat{Kind: api.PInt, N: n}, api.ErrForm)
	}
	showsPat(t, api.Pat{Kind: api.PString, S: "a\"\n\xff"}, `"a\"\n\xff"`)
	showsPat(t, api.Pat{Kind: api.PString}, `""`)
	showsPat(t, api.Pat{Kind: api.PBool, N: 1}, "true")
	showsPat(t, api.Pat{Kind: api.PBool}, "false")
	showsPat(t, api.Pat{Kind: api.PUnit}, "()")
	showsPat(t, api.Pat{Kind: api.PExn, Name: "Foo"}, "Foo")
	tag := api.Pat{Kind: api.PTag, Name: "A", Args: []api.Pat{any}}
	showsPat(t, tag, "(#A _)")
	showsPat(t, api.Pat{Kind: api.PTag, Name: "B", Args: []api.Pat{tag}}, "(#B (#A _))")
	showsPat(t, api.Pat{Kind: api.PRecord}, "{}")
	showsPat(t, api.Pat{Kind: api.PRecord, Labels: []string{"y"}, Args: []api.Pat{z}}, "{y = z}")
	showsPat(t, api.Pat{Kind: api.PRecord, Labels: []string{"y", "_", "y"}, Args: []api.Pat{tag, {Kind: api.PInt, N: -2}, {Kind: api.PRecord}}}, "{y = (#A _), _ = -2, y = {}}")
}

func TestP7_2_Form(t *testing.T) {
	any := api.Pat{Kind: api.PAny}
	for _, kind := range []int{0, -1, api.PRecord + 1, 99, largest, smallest} {
		refusesPat(t, api.Pat{Kind: kind}, api.ErrForm)
		refusesPat(t, api.Pat{Kind: kind, Name: "x", Args: []api.Pat{any}}, api.ErrForm)
	}
	refusesPat(t, api.Pat{Kind: api.PVar, Name: "_"}, api.ErrForm)
	all := []api.Pat{any, {Kind: api.PVar, Name: "x"}, {Kind: api.PInt, N: 3}, {Kind: api.PInt, N: -3}, {Kind: api.PString, S: "s"}, {Kind: api.PBool, N: 1}, {Kind: api.PUnit}, {Kind: api.PExn, Name: "A"}, {Kind: api.PTag, Name: "A", Args: []api.Pat{any}}, {Kind: api.PRecord}, {Kind: api.PRecord, Labels: []string{"l"}, Args: []api.Pat{any}}}
	for _, p := range all {
		spoiled := []func(x *api.Pat){func(x *api.Pat) { x.Args = append([]api.Pat{any}, x.Args...) }, func(x *api.Pat) { x.Labels = append([]string{"l"}, x.Labels...) }}
		if p.Name == "" {
			spoiled = append(spoiled, func(x *api.Pat) { x.Name = "x" }, func(x *api.Pat) { x.Name = "X" }, func(x *api.Pat) { x.Name = "_" })
		} else {
			spoiled = append(spoiled, func(x *api.Pat) { x.Name = "" })
		}
		if p.Kind != api.PInt && p.Kind != api.PBool {
			spoiled = append(spoiled, func(x *api.Pat) { x.N = 1 }, func(x *api.Pat) { x.N = -1 << 63 })
		}
		if p.Kind != api.PString {
			spoiled = append(spoiled, func(x *api.Pat) { x.S = "s" })
		}
		if len(p.Args) > 0 {
			spoiled = append(spoiled, func(x *api.Pat) { x.Args = nil })
		}
		for i, spoil := range spoiled {
			x := p
			spoil(&x)
			if got, errno := show.Pattern(x); errno != api.ErrForm || got != "" {
				t.Errorf("%+v, %d: %q, %d", x, i, got, errno)
			}
			refusesPat(t, api.Pat{Kind: api.PTag, Name: "A", Args: []api.Pat{x}}, api.ErrForm)
			refusesPat(t, api.Pat{Kind: api.PRecord, Labels: []string{"k", "l"}, Args: []api.Pat{any, x}}, api.ErrForm)
			refuses(t, in(x), api.ErrForm)
		}
	}
}

// tags nests a pattern in n others.
func tags(n int, p api.Pat) api.Pat {
	for range n {
		p = api.Pat{Kind: api.PTag, Name: "A", Args: []api.Pat{p}}
	}
	return p
}

func TestP7_2_Order(t *testing.T) {
	any, bad := api.Pat{Kind: api.PAny}, api.Pat{Kind: api.PVar, Name: "_"}
	wide := func(parts int, last api.Pat) api.Pat {
		p := api.Pat{Kind: api.PRecord}
		for range parts - 1 {
			p.Labels, p.Args = append(p.Labels, "l"), append(p.Args, any)
		}
		p.Args[len(p.Args)-1] = last
		return p
	}
	refusesPat(t, wide(api.MaxNodes, any), api.ErrBytes)
	refusesPat(t, wide(api.MaxNodes, bad), api.ErrForm)
	refusesPat(t, wide(api.MaxNodes+1, any), api.ErrMany)
	refusesPat(t, wide(api.MaxNodes+1, bad), api.ErrMany)
	refusesPat(t, tags(api.MaxNodes, bad), api.ErrMany)
	refusesPat(t, api.Pat{Args: make([]api.Pat, api.MaxNodes)}, api.ErrMany)
	for _, n := range []int{198, 199} {
		if got, errno := show.Pattern(tags(n, any)); got != strings.Repeat("(#A ", n)+"_"+strings.Repeat(")", n) || errno != api.OK {
			t.Errorf("%d deep: %d", n+1, errno)
		}
		refusesPat(t, tags(n, bad), api.ErrForm)
	}
	for _, n := range []int{200, 201, 1000} {
		refusesPat(t, tags(n, any), api.ErrDeep)
		refusesPat(t, tags(n, bad), api.ErrDeep)
	}
	// In an expression a pattern is one deeper.
	refuses(t, in(tags(199, any)), api.ErrDeep)
	shows(t, in(tags(198, any)), "(match x with "+strings.Repeat("(#A ", 198)+"_"+strings.Repeat(")", 198)+" -> y end)")
	name := strings.Repeat("a", api.MaxSource)
	showsPat(t, api.Pat{Kind: api.PVar, Name: name}, name)
	refusesPat(t, api.Pat{Kind: api.PVar, Name: name + "a"}, api.ErrBytes)
	refusesPat(t, api.Pat{Kind: api.PVar, Name: name + "-"}, api.ErrForm)
	showsPat(t, api.Pat{Kind: api.PString, S: name[2:]}, `"`+name[2:]+`"`)
	refusesPat(t, api.Pat{Kind: api.PString, S: name[1:]}, api.ErrBytes)
	refusesPat(t, wide(3, api.Pat{Kind: api.PString, S: name}), api.ErrBytes)
	refusesPat(t, api.Pat{Kind: api.PRecord, Labels: []string{"k", "l"}, Args: []api.Pat{{Kind: api.PString, S: name}, bad}}, api.ErrForm)
}

const (
	largest  = int(^uint(0) >> 1)
	smallest = -largest - 1
)

// TestP1_Huge: neither what is deeper than calls can be nor what contains itself stops a call.
func TestP1_Huge(t *testing.T) {
	defer debug.SetMaxStack(debug.SetMaxStack(1 << 20))
	refuses(t, chain(1<<17, v("x")), api.ErrMany)
	refusesPat(t, tags(1<<17, api.Pat{Kind: api.PAny}), api.ErrMany)
	loop := of(api.EApp, "", v("f"), v("x"))
	loop.Args[1] = loop
	refuses(t, loop, api.ErrMany)
	pat := tags(1, api.Pat{})
	pat.Args[0] = pat
	refusesPat(t, pat, api.ErrMany)
	refuses(t, in(pat), api.ErrMany)
	// The same long string in all parts: they are not written out.
	s := strings.Repeat("\xff", 1<<20)
	refuses(t, row(api.MaxNodes, api.Expr{Kind: api.EString, S: s}), api.ErrBytes)
	e := of(api.ERecord, "")
	for range api.MaxNodes - 1 {
		e.Labels, e.Args = append(e.Labels, "l"), append(e.Args, api.Expr{Kind: api.EString, S: s})
	}
	refuses(t, e, api.ErrBytes)
	refuses(t, api.Expr{Kind: api.ERecord, Labels: make([]string, 1<<20)}, api.ErrForm)
}

// TestP1_Rules: no call panics, an error leaves nothing else, nothing that is passed is changed, and neither earlier calls
// nor others at the same time change a result.
func TestP1_Rules(t *testing.T) {
	type result struct {
		text, pat string
		e, f      api.Errno
	}
	run := func() []result {
		m := maker{rand.New(rand.NewSource(5))}
		var l []result
		for i := range 4000 {
			e, p := m.expr(1+i/800), m.pat(1+i/800)
			for range m.Intn(3) {
				m.spoil(&e)
				m.spoilPat(&p)
			}
			if i%200 == 0 {
				e, p = chain(i, e), tags(i, p)
			}
			before, patBefore := plain(e), plainPat(p)
			var x result
			x.text, x.e = show.Show(e)
			x.pat, x.f = show.Pattern(p)
			if !reflect.DeepEqual(plain(e), before) || !reflect.DeepEqual(plainPat(p), patBefore) {
				t.Errorf("%+v, %+v: changed", e, p)
			}
			l = append(l, x)
		}
		return l
	}
	first := run()
	errors := map[api.Errno]int{}
	for _, x := range first {
		errors[x.e]++
		errors[x.f]++
		if (x.e == api.OK) == (x.text == "") || (x.f == api.OK) == (x.pat == "") {
			t.Fatalf("%+v", x)
		}
	}
	for _, e := range []api.Errno{api.OK, api.ErrDeep, api.ErrForm} {
		if errors[e] == 0 {
			t.Errorf("no call returned %d", e)
		}
	}
	var wait sync.WaitGroup
	for range 4 {
		wait.Go(func() {
			if again := run(); !reflect.DeepEqual(again, first) {
				t.Error("another result")
			}
		})
	}
	wait.Wait()
}

// TestP1_OwnMemory: a text is not a piece of what was passed.
func TestP1_OwnMemory(t *testing.T) {
	name := strings.Repeat("n", 100)
	for _, s := range []string{name, "N" + name} {
		kind := map[bool]int{true: api.EVar, false: api.EExn}[s == name]
		text, _ := show.Show(of(kind, s))
		again, _ := show.Show(of(kind, s))
		pat, _ := show.Pattern(api.Pat{Kind: map[bool]int{true: api.PVar, false: api.PExn}[s == name], Name: s})
		if text != s || pat != s {
			t.Errorf("%q, %q", text, pat)
		}
		all := []string{s, text, again, pat}
		for i, a := range all {
			for _, b := range all[:i] {
				if unsafe.StringData(a) == unsafe.StringData(b) {
					t.Errorf("%q: two texts share memory", s)
				}
			}
		}
	}
}
