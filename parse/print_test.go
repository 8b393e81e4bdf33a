package parse_test

import (
	"fmt"
	"math/rand"
	"regexp"
	"strings"

	"marquetry/api"
	"marquetry/word"
)

var exprNames = []string{"", "var", "int", "string", "bool", "unit", "exn", "fun", "app", "let", "rec", "if", "record", "with", "field", "tag", "match", "try", "raise", "op", "seq", "and", "or"}

var patNames = []string{"", "any", "var", "int", "string", "bool", "unit", "exn", "tag", "record"}

var opNames = []string{"", "add", "sub", "mul", "div", "rem", "neg", "eq", "lt", "not", "ref", "deref", "assign", "array", "get", "set", "len", "size", "byte", "cat", "getc", "putc"}

// fields tells which fields of an expression or a pattern are not zero.
func dumpFields(name string, n int64, s string, labels []string) string {
	b := ""
	if name != "" {
		b += ":" + name
	}
	if n != 0 {
		b += fmt.Sprintf("=%d", n)
	}
	if s != "" {
		b += word.Quote(s)
	}
	if len(labels) > 0 {
		b += "{" + strings.Join(labels, " ") + "}"
	}
	return b
}

// dump tells all fields of an expression that are not zero: kind@at:name=n"s"{labels}(args)[arms]. An operation's kind is its name.
func dump(e api.Expr) string {
	kind := exprNames[e.Kind]
	if e.Kind == api.EOp {
		kind, e.N = opNames[e.N], 0
	}
	b := fmt.Sprintf("%s@%d%s", kind, e.At, dumpFields(e.Name, e.N, e.S, e.Labels))
	if len(e.Args) > 0 {
		var l []string
		for _, a := range e.Args {
			l = append(l, dump(a))
		}
		b += "(" + strings.Join(l, " ") + ")"
	}
	if len(e.Arms) > 0 {
		var l []string
		for _, a := range e.Arms {
			l = append(l, dumpPat(a.P)+" -> "+dump(a.Body))
		}
		b += "[" + strings.Join(l, " | ") + "]"
	}
	return b
}

func dumpPat(p api.Pat) string {
	b := fmt.Sprintf("%s@%d%s", patNames[p.Kind], p.At, dumpFields(p.Name, p.N, p.S, p.Labels))
	if len(p.Args) > 0 {
		var l []string
		for _, a := range p.Args {
			l = append(l, dumpPat(a))
		}
		b += "(" + strings.Join(l, " ") + ")"
	}
	return b
}

// A maker makes random expressions, without places.
type maker struct{ r *rand.Rand }

func (m maker) name() string {
	return []string{"x", "y", "_", "f9", "letx", "in_", "zA"}[m.r.Intn(7)]
}

func (m maker) upper() string {
	return []string{"A", "Foo", "Match", "T_1"}[m.r.Intn(4)]
}

func (m maker) text() string {
	b := make([]byte, m.r.Intn(4))
	for i := range b {
		b[i] = "a\"\\\n #;\xc3\x00"[m.r.Intn(9)]
	}
	return string(b)
}

func (m maker) number() int64 {
	return m.r.Int63n(1<<62) >> m.r.Intn(62)
}

func (m maker) labels(n int) []string {
	var l []string
	for range n {
		l = append(l, m.name())
	}
	return l
}

func (m maker) exprs(n, depth int) []api.Expr {
	var l []api.Expr
	for range n {
		l = append(l, m.expr(depth))
	}
	return l
}

func (m maker) leaf() api.Expr {
	switch m.r.Intn(7) {
	case 0, 1:
		return api.Expr{Kind: api.EVar, Name: m.name()}
	case 2:
		return api.Expr{Kind: api.EInt, N: m.number()}
	case 3:
		return api.Expr{Kind: api.EString, S: m.text()}
	case 4:
		return api.Expr{Kind: api.EBool, N: m.r.Int63n(2)}
	case 5:
		return api.Expr{Kind: api.EUnit}
	}
	return api.Expr{Kind: api.EExn, Name: m.upper()}
}

func operands(op int) int {
	switch op {
	case api.OpNeg, api.OpNot, api.OpRef, api.OpDeref, api.OpLen, api.OpSize, api.OpGetc, api.OpPutc:
		return 1
	case api.OpSet:
		return 3
	}
	return 2
}

func (m maker) expr(depth int) api.Expr {
	if depth <= 1 || m.r.Intn(8) == 0 {
		return m.leaf()
	}
	e := api.Expr{Kind: []int{api.EFun, api.EApp, api.ELet, api.ERec, api.EIf, api.ERecord, api.EWith, api.EField, api.ETag, api.EMatch, api.ETry, api.ERaise, api.EOp, api.EOp, api.EOp, api.EOp, api.EOp, api.ESeq, api.EAnd, api.EOr}[m.r.Intn(20)]}
	n := 1
	switch e.Kind {
	case api.EApp, api.ESeq, api.EAnd, api.EOr:
		n = 2
	case api.EFun, api.EField:
		e.Name = m.name()
	case api.ETag:
		e.Name = m.upper()
	case api.ELet, api.EWith:
		e.Name, n = m.name(), 2
	case api.ERec:
		e.Name = m.name()
		e.Args = []api.Expr{{Kind: api.EFun, Name: m.name(), Args: m.exprs(1, depth-2)}, m.expr(depth - 1)}
		return e
	case api.EIf:
		n = 3
	case api.ERecord:
		n = m.r.Intn(4)
		e.Labels = m.labels(n)
	case api.EMatch, api.ETry:
		for range 1 + m.r.Intn(3) {
			e.Arms = append(e.Arms, api.Arm{P: m.pat(depth - 1), Body: m.expr(depth - 1)})
		}
	case api.EOp:
		op := api.OpAdd + m.r.Intn(api.OpPutc)
		e.N, n = int64(op), operands(op)
	}
	e.Args = m.exprs(n, depth-1)
	return e
}

func (m maker) pat(depth int) api.Pat {
	k := m.r.Intn(9)
	if depth <= 1 {
		k = m.r.Intn(7)
	}
	switch k {
	case 0:
		return api.Pat{Kind: api.PAny}
	case 1:
		return api.Pat{Kind: api.PVar, Name: []string{"x", "y", "__", "_1"}[m.r.Intn(4)]}
	case 2:
		return api.Pat{Kind: api.PInt, N: m.number() * (1 - 2*m.r.Int63n(2))}
	case 3:
		return api.Pat{Kind: api.PString, S: m.text()}
	case 4:
		return api.Pat{Kind: api.PBool, N: m.r.Int63n(2)}
	case 5:
		return api.Pat{Kind: api.PUnit}
	case 6:
		return api.Pat{Kind: api.PExn, Name: m.upper()}
	case 7:
		return api.Pat{Kind: api.PTag, Name: m.upper(), Args: []api.Pat{m.pat(depth - 1)}}
	}
	p := api.Pat{Kind: api.PRecord}
	for range m.r.Intn(4) {
		p.Args = append(p.Args, m.pat(depth-1))
	}
	p.Labels = m.labels(len(p.Args))
	return p
}

// A printer writes an expression and sets its places, with spaces and parentheses as chance has it.
type printer struct {
	r    *rand.Rand
	text []byte
}

// The levels of the grammar.
const (
	atSeq = iota
	atItem
	atOr
	atAnd
	atCmp
	atSum
	atProd
	atUnary
	atApp
	atPost
	atAtom
)

func (p *printer) space() {
	for p.r.Intn(4) == 0 {
		p.text = append(p.text, " \n"[p.r.Intn(2)])
	}
}

func nameByte(c byte) bool {
	return c == '_' || c >= '0' && c <= '9' || c|32 >= 'a' && c|32 <= 'z'
}

// put writes a token and returns its place.
func (p *printer) put(s string) int {
	p.space()
	if n := len(p.text); n > 0 && nameByte(p.text[n-1]) && nameByte(s[0]) {
		p.text = append(p.text, ' ')
	}
	at := len(p.text)
	p.text = append(p.text, s...)
	return at
}

func levelOf(e *api.Expr) int {
	switch e.Kind {
	case api.ESeq:
		return atSeq
	case api.EFun, api.ELet, api.ERec, api.EIf, api.EMatch, api.ETry, api.ERaise:
		return atItem
	case api.EOr:
		return atOr
	case api.EAnd:
		return atAnd
	case api.EApp, api.ETag:
		return atApp
	case api.EOp:
		switch e.N {
		case api.OpAssign:
			return atItem
		case api.OpEq, api.OpLt:
			return atCmp
		case api.OpAdd, api.OpSub:
			return atSum
		case api.OpMul, api.OpDiv, api.OpRem:
			return atProd
		case api.OpNeg, api.OpNot:
			return atUnary
		case api.OpDeref:
			return atPost
		}
		return atApp
	}
	return atAtom
}

// expr writes what can stand at a level; it reports whether a following ";" would belong to the end of it.
func (p *printer) expr(e *api.Expr, level int) bool {
	if levelOf(e) < level || p.r.Intn(12) == 0 {
		p.parens(e)
		return false
	}
	return p.bare(e)
}

func (p *printer) parens(e *api.Expr) {
	p.put("(")
	p.expr(e, atSeq)
	p.put(")")
}

// closed writes what can stand at a level, in parentheses if what follows belonged to it otherwise.
func (p *printer) closed(e *api.Expr, level int) {
	start := len(p.text)
	if p.expr(e, level) {
		p.text = p.text[:start]
		p.parens(e)
	}
}

func (p *printer) infix(e *api.Expr, sign string, left, right int) bool {
	p.closed(&e.Args[0], left)
	e.At = p.put(sign)
	return p.expr(&e.Args[1], right)
}

func (p *printer) bare(e *api.Expr) bool {
	switch e.Kind {
	case api.EFun:
		p.fun(e)
		return true
	case api.ELet:
		e.At = p.put("let")
		p.put(e.Name)
		p.put("=")
		p.expr(&e.Args[0], atSeq)
		p.put("in")
		p.expr(&e.Args[1], atSeq)
		return true
	case api.ERec:
		e.At = p.put("let")
		p.put("rec")
		p.put(e.Name)
		p.put("=")
		p.fun(&e.Args[0])
		p.put("in")
		p.expr(&e.Args[1], atSeq)
		return true
	case api.EIf:
		e.At = p.put("if")
		p.expr(&e.Args[0], atSeq)
		p.put("then")
		p.expr(&e.Args[1], atItem)
		p.put("else")
		return p.expr(&e.Args[2], atItem)
	case api.ERaise:
		e.At = p.put("raise")
		p.expr(&e.Args[0], atPost)
	case api.EMatch, api.ETry:
		p.cases(e)
	case api.ESeq:
		return p.infix(e, ";", atItem, atSeq)
	case api.EOr:
		return p.infix(e, "||", atAnd, atOr)
	case api.EAnd:
		return p.infix(e, "&&", atCmp, atAnd)
	case api.EOp:
		return p.op(e)
	default:
		p.tight(e)
	}
	return false
}

func (p *printer) fun(e *api.Expr) {
	e.At = p.put("fun")
	p.put(e.Name)
	p.put("->")
	p.expr(&e.Args[0], atSeq)
}

func (p *printer) cases(e *api.Expr) {
	e.At = p.put(map[int]string{api.EMatch: "match", api.ETry: "try"}[e.Kind])
	p.expr(&e.Args[0], atSeq)
	p.put("with")
	for i := range e.Arms {
		if i > 0 {
			p.put("|")
		}
		p.pat(&e.Arms[i].P, false)
		p.put("->")
		p.expr(&e.Arms[i].Body, atSeq)
	}
	p.put("end")
}

var opTexts = []string{"", "+", "-", "*", "/", "%", "-", "=", "<", "not", "ref", "!", ":=", "array", "get", "set", "len", "size", "byte", "cat", "getc", "putc"}

func (p *printer) op(e *api.Expr) bool {
	sign := opTexts[e.N]
	switch levelOf(e) {
	case atItem:
		return p.infix(e, sign, atOr, atItem)
	case atCmp:
		return p.infix(e, sign, atSum, atSum)
	case atSum:
		return p.infix(e, sign, atSum, atProd)
	case atProd:
		return p.infix(e, sign, atProd, atUnary)
	}
	e.At = p.put(sign)
	for i := range e.Args {
		p.expr(&e.Args[i], map[int]int{atUnary: atUnary, atApp: atPost, atPost: atPost}[levelOf(e)])
	}
	return false
}

// tight writes what nothing can be taken out of.
func (p *printer) tight(e *api.Expr) {
	switch e.Kind {
	case api.EVar, api.EExn:
		e.At = p.put(e.Name)
	case api.EInt:
		e.At = p.put(word.Text(e.N))
	case api.EString:
		e.At = p.put(word.Quote(e.S))
	case api.EBool:
		e.At = p.put([]string{"false", "true"}[e.N])
	case api.EUnit:
		e.At = p.put("(")
		p.put(")")
	case api.EApp:
		if e.Args[0].Kind == api.EApp {
			p.expr(&e.Args[0], atApp)
		} else {
			p.expr(&e.Args[0], atPost)
		}
		e.At = e.Args[0].At
		p.expr(&e.Args[1], atPost)
	case api.ETag:
		e.At = p.put("#" + e.Name)
		p.expr(&e.Args[0], atPost)
	case api.EField:
		p.expr(&e.Args[0], atAtom)
		e.At = p.put(".")
		p.put(e.Name)
	case api.ERecord:
		e.At = p.put("{")
		for i := range e.Args {
			p.label(i, e.Labels[i])
			p.expr(&e.Args[i], atSeq)
		}
		p.put("}")
	case api.EWith:
		p.with(e)
	}
}

func (p *printer) label(i int, name string) {
	if i > 0 {
		p.put(",")
	}
	p.put(name)
	p.put("=")
}

var beginsRecord = regexp.MustCompile(`^[ \n]*[a-z_]\w*[ \n]*=`)

func (p *printer) with(e *api.Expr) {
	e.At = p.put("{")
	start := len(p.text)
	p.expr(&e.Args[0], atSeq)
	if beginsRecord.Match(p.text[start:]) {
		p.text = p.text[:start]
		p.parens(&e.Args[0])
	}
	p.put("with")
	p.put(e.Name)
	p.put("=")
	p.expr(&e.Args[1], atSeq)
	p.put("}")
}

// pat writes a pattern; one that a tag begins cannot stand after a tag.
func (p *printer) pat(x *api.Pat, afterTag bool) {
	if p.r.Intn(12) == 0 || afterTag && x.Kind == api.PTag {
		p.put("(")
		p.pat(x, false)
		p.put(")")
		return
	}
	switch x.Kind {
	case api.PAny:
		x.At = p.put("_")
	case api.PVar, api.PExn:
		x.At = p.put(x.Name)
	case api.PInt:
		if x.N < 0 {
			x.At = p.put("-")
			p.put(word.Text(-x.N))
		} else {
			x.At = p.put(word.Text(x.N))
		}
	case api.PString:
		x.At = p.put(word.Quote(x.S))
	case api.PBool:
		x.At = p.put([]string{"false", "true"}[x.N])
	case api.PUnit:
		x.At = p.put("(")
		p.put(")")
	case api.PTag:
		x.At = p.put("#" + x.Name)
		p.pat(&x.Args[0], true)
	case api.PRecord:
		x.At = p.put("{")
		for i := range x.Args {
			p.label(i, x.Labels[i])
			p.pat(&x.Args[i], false)
		}
		p.put("}")
	}
}

// printed writes an expression, and sets its places.
func printed(r *rand.Rand, e *api.Expr) string {
	p := &printer{r: r}
	p.expr(e, atSeq)
	p.space()
	return string(p.text)
}

// randomText returns a text and the expression that it says.
func randomText(r *rand.Rand, depth int) (string, api.Expr) {
	e := maker{r}.expr(depth)
	return printed(r, &e), e
}
