package parse

import (
	"slices"

	"marquetry/api"
)

// A fault is what a panic carries: an error, and the offset it is told of.
type fault struct {
	errno api.Errno
	at    int
}

// A parser holds the tokens that have not been read yet; the end, which is the last one, is never read.
type parser struct {
	rest []api.Token
}

// refuse gives up at the next token.
func (p *parser) refuse() {
	panic(fault{api.ErrSyntax, p.rest[0].At})
}

// sees reports whether the next token is one of these symbols and keywords.
func (p *parser) sees(texts ...string) bool {
	return isOne(p.rest[0], texts...)
}

// isOne reports whether a token is one of these symbols and keywords.
func isOne(t api.Token, texts ...string) bool {
	return (t.Kind == api.TokSign || t.Kind == api.TokWord) && slices.Contains(texts, t.Text)
}

// read returns the next token and goes on.
func (p *parser) read() api.Token {
	t := p.rest[0]
	p.rest = p.rest[1:]
	return t
}

// accept reads the next token if it is one of these symbols and keywords.
func (p *parser) accept(texts ...string) (api.Token, bool) {
	if !p.sees(texts...) {
		return api.Token{}, false
	}
	return p.read(), true
}

// need reads the next token, which must be one of these symbols and keywords.
func (p *parser) need(texts ...string) api.Token {
	if !p.sees(texts...) {
		p.refuse()
	}
	return p.read()
}

// name reads a name.
func (p *parser) name() string {
	if p.rest[0].Kind != api.TokName {
		p.refuse()
	}
	return p.read().Text
}

// A leaf is an expression or a pattern of a single token.
type leaf struct {
	expr, pat int // its kind as an expression and as a pattern
	name      string
	n         int64
	s         string
}

// leafOf returns what a token says by itself, if it says anything.
func leafOf(t api.Token) (leaf, bool) {
	switch t.Kind {
	case api.TokName:
		return leaf{expr: api.EVar, pat: api.PVar, name: t.Text}, true
	case api.TokUpper:
		return leaf{expr: api.EExn, pat: api.PExn, name: t.Text}, true
	case api.TokInt:
		return leaf{expr: api.EInt, pat: api.PInt, n: t.N}, true
	case api.TokString:
		return leaf{expr: api.EString, pat: api.PString, s: t.Text}, true
	}
	if isOne(t, "true") {
		return leaf{expr: api.EBool, pat: api.PBool, n: 1}, true
	}
	return leaf{expr: api.EBool, pat: api.PBool}, isOne(t, "false")
}

// fields reads the fields of a record, and the brace that ends it.
func fields[T any](p *parser, value func() T) ([]string, []T) {
	if _, empty := p.accept("}"); empty {
		return nil, nil
	}
	var labels []string
	var values []T
	for {
		labels = append(labels, p.name())
		p.need("=")
		values = append(values, value())
		if p.need(",", "}").Text == "}" {
			return labels, values
		}
	}
}
