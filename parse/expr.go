package parse

import "marquetry/api"

// How the operators of a level bind.
const (
	once = iota
	toLeft
	toRight
)

// A level is a kind of expression between two operands, and the symbols that make it.
type level struct {
	kind  int
	binds int
	signs [3]string // "" is none
}

// levels go from the symbols that bind least to those that bind most.
var levels = [...]level{
	{api.EOr, toRight, [3]string{"||"}},
	{api.EAnd, toRight, [3]string{"&&"}},
	{api.EOp, once, [3]string{"=", "<"}},
	{api.EOp, toLeft, [3]string{"+", "-"}},
	{api.EOp, toLeft, [3]string{"*", "/", "%"}},
}

// words are the operations that are written before one, two and three operands.
var words = [...][5]string{
	{"ref", "len", "size", "getc", "putc"},
	{"array", "get", "byte", "cat"},
	{"set"},
}

// operation returns the number of an operation that a symbol or keyword stands for; a minus stands between two operands.
func operation(text string) int64 {
	switch text {
	case ":=":
		return api.OpAssign
	case "=":
		return api.OpEq
	case "<":
		return api.OpLt
	case "+":
		return api.OpAdd
	case "-":
		return api.OpSub
	case "*":
		return api.OpMul
	case "/":
		return api.OpDiv
	case "%":
		return api.OpRem
	case "not":
		return api.OpNot
	case "!":
		return api.OpDeref
	case "ref":
		return api.OpRef
	case "len":
		return api.OpLen
	case "size":
		return api.OpSize
	case "getc":
		return api.OpGetc
	case "putc":
		return api.OpPutc
	case "array":
		return api.OpArray
	case "get":
		return api.OpGet
	case "byte":
		return api.OpByte
	case "cat":
		return api.OpCat
	case "set":
		return api.OpSet
	}
	return 0
}

// node returns the expression of that kind that a token makes of its operands.
func node(kind int, t api.Token, args ...api.Expr) api.Expr {
	e := api.Expr{Kind: kind, At: t.At, Args: args}
	if kind == api.EOp {
		e.N = operation(t.Text)
	}
	return e
}

// text reads a complete text.
func text(tokens []api.Token) api.Expr {
	p := &parser{tokens}
	e := p.seq()
	if p.rest[0].Kind != api.TokEnd {
		p.refuse()
	}
	return e
}

// seq reads an item, or several.
func (p *parser) seq() api.Expr {
	first := p.item()
	if sign, ok := p.accept(";"); ok {
		return node(api.ESeq, sign, first, p.seq())
	}
	return first
}

// item reads what stands between semicolons.
func (p *parser) item() api.Expr {
	if p.sees("fun") {
		return p.fun()
	}
	first, ok := p.accept("let", "match", "try", "if", "raise")
	if !ok {
		return p.assign()
	}
	switch first.Text {
	case "let":
		return p.let(first)
	case "match":
		return p.cases(api.EMatch, first)
	case "try":
		return p.cases(api.ETry, first)
	case "if":
		return p.choice(first)
	}
	return node(api.ERaise, first, p.post())
}

// fun reads a function.
func (p *parser) fun() api.Expr {
	first := p.need("fun")
	name := p.name()
	p.need("->")
	e := node(api.EFun, first, p.seq())
	e.Name = name
	return e
}

// let reads what follows a let: a name, its value, and where it holds.
func (p *parser) let(first api.Token) api.Expr {
	kind, value := api.ELet, p.seq
	if _, rec := p.accept("rec"); rec {
		kind, value = api.ERec, p.fun
	}
	name := p.name()
	p.need("=")
	bound := value()
	p.need("in")
	e := node(kind, first, bound, p.seq())
	e.Name = name
	return e
}

// cases reads what follows a match or a try.
func (p *parser) cases(kind int, first api.Token) api.Expr {
	e := node(kind, first, p.seq())
	p.need("with")
	e.Arms = p.arms()
	return e
}

// choice reads what follows an if.
func (p *parser) choice(first api.Token) api.Expr {
	test := p.seq()
	p.need("then")
	yes := p.item()
	p.need("else")
	return node(api.EIf, first, test, yes, p.item())
}

// assign reads an assignment, or an operand of one.
func (p *parser) assign() api.Expr {
	left := p.level(0)
	if sign, ok := p.accept(":="); ok {
		return node(api.EOp, sign, left, p.item())
	}
	return left
}

// level reads the operands of a level, and the symbols of that level between them.
func (p *parser) level(n int) api.Expr {
	if n == len(levels) {
		return p.unary()
	}
	l := levels[n]
	left := p.level(n + 1)
	for {
		sign, ok := p.accept(l.signs[:]...)
		if !ok {
			return left
		}
		switch l.binds {
		case once:
			return node(l.kind, sign, left, p.level(n+1))
		case toRight:
			return node(l.kind, sign, left, p.level(n))
		}
		left = node(l.kind, sign, left, p.level(n+1))
	}
}

// unary reads an operand, with what negates it.
func (p *parser) unary() api.Expr {
	sign, ok := p.accept("-", "not")
	if !ok {
		return p.app()
	}
	e := node(api.EOp, sign, p.unary())
	if sign.Text == "-" {
		e.N = api.OpNeg
	}
	return e
}

// app reads a tagged value, an operation that a keyword begins, or an application.
func (p *parser) app() api.Expr {
	if p.rest[0].Kind == api.TokTag {
		tag := p.read()
		e := node(api.ETag, tag, p.post())
		e.Name = tag.Text
		return e
	}
	for i, l := range words {
		if first, ok := p.accept(l[:]...); ok {
			return node(api.EOp, first, p.posts(i+1)...)
		}
	}
	e := p.post()
	for p.beginsPost() {
		e = api.Expr{Kind: api.EApp, At: e.At, Args: []api.Expr{e, p.post()}}
	}
	return e
}

// posts reads n operands of a keyword.
func (p *parser) posts(n int) []api.Expr {
	var l []api.Expr
	for range n {
		l = append(l, p.post())
	}
	return l
}

// beginsPost reports whether the next token can begin an operand of an application.
func (p *parser) beginsPost() bool {
	_, ok := leafOf(p.rest[0])
	return ok || p.sees("(", "{", "!")
}

// post reads an operand of an application.
func (p *parser) post() api.Expr {
	if sign, ok := p.accept("!"); ok {
		return node(api.EOp, sign, p.post())
	}
	e := p.atom()
	for {
		dot, ok := p.accept(".")
		if !ok {
			return e
		}
		e = node(api.EField, dot, e)
		e.Name = p.name()
	}
}

// atom reads a leaf, or what stands in parentheses or braces.
func (p *parser) atom() api.Expr {
	if l, ok := leafOf(p.rest[0]); ok {
		return api.Expr{Kind: l.expr, At: p.read().At, Name: l.name, N: l.n, S: l.s}
	}
	first := p.need("(", "{")
	if first.Text == "{" {
		return p.braces(first)
	}
	if _, unit := p.accept(")"); unit {
		return node(api.EUnit, first)
	}
	inner := p.seq()
	p.need(")")
	return inner
}

// braces reads what follows a brace: the fields of a record, or a record and a field that differs.
func (p *parser) braces(first api.Token) api.Expr {
	if p.sees("}") || p.rest[0].Kind == api.TokName && isOne(p.rest[1], "=") {
		e := node(api.ERecord, first)
		e.Labels, e.Args = fields(p, p.seq)
		return e
	}
	old := p.seq()
	p.need("with")
	name := p.name()
	p.need("=")
	e := node(api.EWith, first, old, p.seq())
	e.Name = name
	p.need("}")
	return e
}
