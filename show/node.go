package show

import (
	"strings"

	"marquetry/api"
	"marquetry/lex"
	"marquetry/word"
)

// A writer adds a part to a text.
type writer func(b *strings.Builder)

// writers returns what writes each of these parts.
func writers[T any](parts []T, put func(*strings.Builder, T)) []writer {
	var l []writer
	for _, p := range parts {
		l = append(l, func(b *strings.Builder) { put(b, p) })
	}
	return l
}

// A node is an expression or a pattern while it is written. What is written is taken out of it: in the end, it holds the
// fields that its form did not name.
type node struct {
	name   string
	n      int64
	s      string
	labels []string
	args   []writer
	arms   []writer
}

// take returns what a field holds, and makes it zero.
func take[T any](field *T) T {
	var zero T
	held := *field
	*field = zero
	return held
}

// put writes a node in a form.
func (x *node) put(b *strings.Builder, form string) {
	need(form != "")
	for _, r := range form {
		switch r {
		case 'x':
			put(b, named(take(&x.name), lex.IsName))
		case 'X':
			put(b, named(take(&x.name), isUpper))
		case 'N':
			put(b, number(take(&x.n)))
		case 'T':
			put(b, truth(take(&x.n)))
		case 'S':
			put(b, quoted(take(&x.s)))
		case 'A', 'B', 'C':
			x.putArg(b)
		case 'L':
			x.putFields(b)
		case 'M':
			x.putArms(b)
		default:
			put(b, string(r))
		}
	}
	need(x.name == "" && x.n == 0 && x.s == "" && len(x.labels)+len(x.args)+len(x.arms) == 0)
}

// putArg writes the next of the Args.
func (x *node) putArg(b *strings.Builder) {
	need(len(x.args) > 0)
	next := x.args[0]
	x.args = x.args[1:]
	next(b)
}

// putFields writes for each label the next of the Args.
func (x *node) putFields(b *strings.Builder) {
	for i, label := range take(&x.labels) {
		if i > 0 {
			put(b, ", ")
		}
		put(b, named(label, lex.IsName))
		put(b, " = ")
		x.putArg(b)
	}
}

// putArms writes the Arms.
func (x *node) putArms(b *strings.Builder) {
	need(len(x.arms) > 0)
	for i, arm := range take(&x.arms) {
		if i > 0 {
			put(b, " | ")
		}
		arm(b)
	}
}

// named returns a name that is one.
func named(s string, isName func(string) bool) string {
	need(isName(s))
	return s
}

// isUpper reports whether s is an uppercase letter and name bytes.
func isUpper(s string) bool {
	// Behind a _, which begins no keyword, whatever are name bytes make a name.
	return s != "" && s[0] >= 'A' && s[0] <= 'Z' && lex.IsName("_"+s[1:])
}

// number returns the digits of a number that is not below 0.
func number(n int64) string {
	need(n >= 0 && n == word.Wrap(n))
	return word.Text(n)
}

// truth returns the keyword of a truth value.
func truth(n int64) string {
	need(n == 0 || n == 1)
	if n == 1 {
		return "true"
	}
	return "false"
}

// quoted returns a string in quotation marks; a part of it, where that is too long for any text.
func quoted(s string) string {
	return word.Quote(s[:min(len(s), api.MaxSource)])
}
