package resolve

import (
	"math"
	"strings"

	"marquetry/api"
)

// mostVar is the greatest variable that a term may bind.
const mostVar = 1 << 20

// A span is the numbers from least to most. The zero span is 0 alone: that of a field that a kind does not have.
type span struct{ least, most int64 }

// has reports whether a number is one of a span's.
func (s span) has(n int64) bool {
	return s.least <= n && n <= s.most
}

// only returns the span of one number.
func only(n int64) span {
	return span{n, n}
}

// fields are what the fields of a kind may hold: a number, or a count of bytes or of items.
type fields struct {
	v, n, s     span
	args, cases span
	labeled     bool // as many Labels as Args
	binds       bool // V is bound, by the term itself
	from        int  // the first of the Args in which it is seen
}

// termFields returns the fields of the kinds of terms.
func termFields() map[int]fields {
	variable, name := span{0, mostVar}, span{1, math.MaxInt64}
	return map[int]fields{
		api.TVar:    {v: variable},
		api.TInt:    {n: numbers()},
		api.TString: {s: span{0, api.MaxText}},
		api.TBool:   {n: span{0, 1}},
		api.TUnit:   {},
		api.TExn:    {s: name},
		api.TFun:    {v: variable, args: only(1), binds: true},
		api.TApp:    {args: only(2)},
		api.TLet:    {v: variable, args: only(2), binds: true, from: 1},
		api.TRec:    {v: variable, args: only(2), binds: true},
		api.TIf:     {args: only(3)},
		api.TRecord: {args: span{0, api.MaxTerm}, labeled: true},
		api.TWith:   {s: name, args: only(2)},
		api.TField:  {s: name, args: only(1)},
		api.TTag:    {s: name, args: only(1)},
		api.TMatch:  {args: only(1), cases: span{1, api.MaxTerm}},
		api.TTry:    {v: variable, args: only(2), binds: true, from: 1},
		api.TRaise:  {args: only(1)},
		api.TOp:     {n: span{api.OpAdd, api.OpPutc}, args: span{1, 3}},
	}
}

// patFields returns the fields of the kinds of patterns.
func patFields() map[int]fields {
	name := span{1, math.MaxInt64}
	return map[int]fields{
		api.PAny:    {},
		api.PVar:    {v: span{0, mostVar}},
		api.PInt:    {n: numbers()},
		api.PString: {s: span{0, api.MaxText}},
		api.PBool:   {n: span{0, 1}},
		api.PUnit:   {},
		api.PExn:    {s: name},
		api.PTag:    {s: name, args: only(1)},
		api.PRecord: {args: span{0, api.MaxTerm}, labeled: true},
	}
}

// numbers returns the span of the numbers of 63 bits.
func numbers() span {
	const most = 1<<62 - 1
	return span{-most - 1, most}
}

// operands returns how many Args an operation has.
func operands(op int64) int {
	switch op {
	case api.OpNeg, api.OpNot, api.OpRef, api.OpDeref, api.OpLen, api.OpSize, api.OpGetc, api.OpPutc:
		return 1
	case api.OpSet:
		return 3
	}
	return 2
}

// text returns the S that is made of a Name and an S, of which a kind has one at most: that which may not be empty is the
// Name. A clone, as the string itself would share its memory.
func (f fields) text(name, s string) string {
	if f.s.least > 0 {
		return strings.Clone(name)
	}
	return strings.Clone(s)
}

// repeats reports whether a label occurs twice.
func repeats(labels []string) bool {
	seen := map[string]struct{}{}
	for _, l := range labels {
		seen[l] = struct{}{}
	}
	return len(seen) < len(labels)
}
