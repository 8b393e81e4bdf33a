// Package word is layer 1: numbers of 63 bits, machine words, and their texts. See shared/doc/01-word.md.
package word

import (
	"strconv"
	"strings"

	"marquetry/api"
)

const (
	mostNumber  = 1<<62 - 1
	mostAddress = 1<<31 - 1
	digits      = "0123456789abcdef"
)

// Wrap brings n into the numbers of 63 bits.
func Wrap(n int64) int64 {
	// The left shift drops the top bit, which counts a multiple of 2^63; the right one repeats the sign below it.
	return n << 1 >> 1
}

// Of returns the word of n wrapped.
func Of(n int64) api.Word {
	return api.Word(n)<<1 | 1
}

// Num returns the number whose word is w with the lowest bit set.
func Num(w api.Word) int64 {
	return int64(w) >> 1
}

// IsNum reports whether w is the word of a number.
func IsNum(w api.Word) bool {
	return w&1 == 1
}

// Ref returns the word of an address, or that of address 0 if addr is none.
func Ref(addr int) api.Word {
	if addr < 0 || addr > mostAddress {
		return 0
	}
	return api.Word(addr) << 1
}

// Addr returns the address whose word is w, or 0 if there is none.
func Addr(w api.Word) int {
	if IsNum(w) || w>>1 > mostAddress {
		return 0
	}
	return int(w >> 1)
}

// Do executes an operation on a and b wrapped.
func Do(op int, a, b int64) (int64, api.Errno) {
	do, ok := operations()[op]
	if !ok {
		return 0, api.ErrArg
	}
	return do(Wrap(a), Wrap(b))
}

// An operation takes numbers of 63 bits and returns one.
type operation func(a, b int64) (int64, api.Errno)

// operations returns the operations by their numbers in api.
func operations() map[int]operation {
	return map[int]operation{
		api.OpAdd: total(func(a, b int64) int64 { return a + b }),
		api.OpSub: total(func(a, b int64) int64 { return a - b }),
		api.OpMul: total(func(a, b int64) int64 { return a * b }),
		api.OpDiv: dividing(func(a, b int64) int64 { return a / b }),
		api.OpRem: dividing(func(a, b int64) int64 { return a % b }),
		api.OpNeg: total(func(a, _ int64) int64 { return -a }),
		api.OpEq:  asking(func(a, b int64) bool { return a == b }),
		api.OpLt:  asking(func(a, b int64) bool { return a < b }),
		api.OpNot: asking(func(a, _ int64) bool { return a == 0 }),
	}
}

// total makes an operation that always has a result.
func total(of func(a, b int64) int64) operation {
	return func(a, b int64) (int64, api.Errno) {
		return Wrap(of(a, b)), api.OK
	}
}

// dividing makes an operation that has no result if b is 0.
func dividing(of func(a, b int64) int64) operation {
	return func(a, b int64) (int64, api.Errno) {
		if b == 0 {
			return 0, api.ErrRange
		}
		return Wrap(of(a, b)), api.OK
	}
}

// asking makes an operation whose result is 1 where something holds, otherwise 0.
func asking(holds func(a, b int64) bool) operation {
	return func(a, b int64) (int64, api.Errno) {
		if holds(a, b) {
			return 1, api.OK
		}
		return 0, api.OK
	}
}

// Text returns n in decimal digits.
func Text(n int64) string {
	return strconv.FormatInt(n, 10)
}

// Read returns the number whose decimal digits are s.
func Read(s string) (int64, api.Errno) {
	if !isNumeral(s) {
		return 0, api.ErrForm
	}
	n := int64(0)
	for i := range len(s) {
		d := int64(s[i] - '0')
		// Asked ahead of the step: 10 * n + d may be too much even for 64 bits.
		if n > (mostNumber-d)/10 {
			return 0, api.ErrRange
		}
		n = 10*n + d
	}
	return n, api.OK
}

// isNumeral reports whether s is digits without a leading 0, or 0 itself.
func isNumeral(s string) bool {
	for i := range len(s) {
		if s[i] < '0' || s[i] > '9' {
			return false
		}
	}
	return s == "0" || s != "" && s[0] != '0'
}

// Quote returns s in quotation marks, in printable bytes.
func Quote(s string) string {
	var b strings.Builder
	b.WriteByte('"')
	for i := range len(s) {
		b.WriteString(quoted(s[i]))
	}
	b.WriteByte('"')
	return b.String()
}

// quoted returns the quoted form of a byte.
func quoted(c byte) string {
	switch {
	case c == '"':
		return `\"`
	case c == '\\':
		return `\\`
	case c == '\n':
		return `\n`
	case c >= 32 && c <= 126:
		return string(rune(c))
	}
	return `\x` + string(rune(digits[c>>4])) + string(rune(digits[c&15]))
}

// Unquote returns the string for which Quote returns s.
func Unquote(s string) (string, api.Errno) {
	if len(s) < 2 || s[0] != '"' || s[len(s)-1] != '"' {
		return "", api.ErrForm
	}
	var b strings.Builder
	for rest := s[1 : len(s)-1]; rest != ""; {
		c := meant(rest)
		// Each byte has one form only: what is written otherwise is refused here.
		form := quoted(c)
		if !strings.HasPrefix(rest, form) {
			return "", api.ErrForm
		}
		b.WriteByte(c)
		rest = rest[len(form):]
	}
	return b.String(), api.OK
}

// meant returns the one byte whose quoted form s, which isn't empty, may begin with.
func meant(s string) byte {
	if s[0] != '\\' || len(s) == 1 {
		return s[0]
	}
	switch {
	case s[1] == 'n':
		return '\n'
	case s[1] == 'x' && len(s) >= 4:
		return digit(s[2])<<4 | digit(s[3])
	}
	return s[1]
}

// digit returns what a digit of base 16 counts, or 0 for another byte.
func digit(c byte) byte {
	return byte(max(0, strings.IndexByte(digits, c)))
}
