package show

import (
	"strings"

	"marquetry/api"
)

// A form is a text in which letters stand for fields (no keyword has one of them): x for the Name; X for a Name that begins
// with an uppercase letter; N, T and S for a number, a truth value and a string; A, B and C for the Args; L for all Args
// with their Labels; M for the Arms. The fields that a form does not name are zero; "" is none.

// function is the form of an EFun without its parentheses.
const function = "fun x -> A"

// exprForm returns the form of a kind of expressions.
func exprForm(kind int) string {
	return pick(int64(kind), []string{
		api.EVar:    "x",
		api.EInt:    "N",
		api.EString: "S",
		api.EBool:   "T",
		api.EUnit:   "()",
		api.EExn:    "X",
		api.EFun:    "(" + function + ")",
		api.EApp:    "(A B)",
		api.ELet:    "(let x = A in B)",
		api.ERec:    "(let rec x = A in B)",
		api.EIf:     "(if A then B else C)",
		api.ERecord: "{L}",
		api.EWith:   "{A with x = B}",
		api.EField:  "A.x",
		api.ETag:    "(#X A)",
		api.EMatch:  "(match A with M end)",
		api.ETry:    "(try A with M end)",
		api.ERaise:  "(raise A)",
		api.ESeq:    "(A; B)",
		api.EAnd:    "(A && B)",
		api.EOr:     "(A || B)",
	})
}

// opForm returns the form of an operation.
func opForm(n int64) string {
	return pick(n, []string{
		api.OpAdd:    "(A + B)",
		api.OpSub:    "(A - B)",
		api.OpMul:    "(A * B)",
		api.OpDiv:    "(A / B)",
		api.OpRem:    "(A % B)",
		api.OpNeg:    "(- A)",
		api.OpEq:     "(A = B)",
		api.OpLt:     "(A < B)",
		api.OpNot:    "(not A)",
		api.OpRef:    "(ref A)",
		api.OpDeref:  "(! A)",
		api.OpAssign: "(A := B)",
		api.OpArray:  "(array A B)",
		api.OpGet:    "(get A B)",
		api.OpSet:    "(set A B C)",
		api.OpLen:    "(len A)",
		api.OpSize:   "(size A)",
		api.OpByte:   "(byte A B)",
		api.OpCat:    "(cat A B)",
		api.OpGetc:   "(getc A)",
		api.OpPutc:   "(putc A)",
	})
}

// patForm returns the form of a kind of patterns.
func patForm(kind int) string {
	return pick(int64(kind), []string{
		api.PAny:    "_",
		api.PVar:    "x",
		api.PInt:    "N",
		api.PString: "S",
		api.PBool:   "T",
		api.PUnit:   "()",
		api.PExn:    "X",
		api.PTag:    "(#X A)",
		api.PRecord: "{L}",
	})
}

// pick returns the form at a place, or none.
func pick(at int64, forms []string) string {
	if at < 0 || at >= int64(len(forms)) {
		return ""
	}
	return forms[at]
}

// putExpr writes an expression.
func putExpr(b *strings.Builder, e api.Expr) {
	x := exprNode(e)
	form := exprForm(e.Kind)
	if e.Kind == api.EOp {
		form = opForm(take(&x.n))
	}
	if e.Kind == api.ERec && len(e.Args) > 0 {
		x.args[0] = func(b *strings.Builder) { putFunction(b, e.Args[0]) }
	}
	x.put(b, form)
}

// putFunction writes a function without its parentheses.
func putFunction(b *strings.Builder, e api.Expr) {
	need(e.Kind == api.EFun)
	exprNode(e).put(b, function)
}

// exprNode returns the node of an expression.
func exprNode(e api.Expr) *node {
	return &node{e.Name, e.N, e.S, e.Labels, writers(e.Args, putExpr), writers(e.Arms, putArm)}
}

// putArm writes a case.
func putArm(b *strings.Builder, a api.Arm) {
	putPat(b, a.P)
	put(b, " -> ")
	putExpr(b, a.Body)
}

// putPat writes a pattern.
func putPat(b *strings.Builder, p api.Pat) {
	x := &node{p.Name, p.N, p.S, p.Labels, writers(p.Args, putPat), nil}
	form := patForm(p.Kind)
	if p.Kind == api.PInt && p.N < 0 {
		// The least number of all stays below 0, and no form has such a one.
		x.n, form = -p.N, "-N"
	}
	need(p.Kind != api.PVar || p.Name != "_") // That is read as a PAny.
	x.put(b, form)
}
