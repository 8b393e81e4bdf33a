package lex

import (
	"strings"

	"marquetry/api"
	"marquetry/word"
)

// symbols are the symbols; one that begins with another stands before it.
var symbols = []string{
	"->", ":=", "&&", "||",
	"(", ")", "{", "}", "=", ";", ",", ".", "|", "+", "-", "*", "/", "%", "<", "!",
}

// read returns the token at the beginning of rest, whose first rune is r, without its offset, and how many bytes it has.
func read(rest string, r rune) (api.Token, int, api.Errno) {
	switch {
	case beginsName(r):
		return readName(rest)
	case isUpper(r):
		return readUpper(rest)
	case r == '#':
		return readTag(rest)
	case isDigit(r):
		return readInt(rest)
	case r == '"':
		return readString(rest)
	}
	return readSign(rest)
}

// readName reads a keyword or a name.
func readName(rest string) (api.Token, int, api.Errno) {
	size := nameSize(rest)
	kind := api.TokName
	if IsWord(rest[:size]) {
		kind = api.TokWord
	}
	return text(kind, rest[:size]), size, api.OK
}

// readUpper reads a name that begins with an uppercase letter.
func readUpper(rest string) (api.Token, int, api.Errno) {
	size := nameSize(rest)
	return text(api.TokUpper, rest[:size]), size, api.OK
}

// readTag reads a # and the name with an uppercase letter that it requires.
func readTag(rest string) (api.Token, int, api.Errno) {
	name := rest[1:]
	if name == "" || !isUpper(rune(name[0])) {
		return api.Token{}, 0, api.ErrToken
	}
	size := nameSize(name)
	return text(api.TokTag, name[:size]), 1 + size, api.OK
}

// readInt reads a number.
func readInt(rest string) (api.Token, int, api.Errno) {
	size := nameSize(rest)
	n, e := word.Read(rest[:size])
	switch e {
	case api.OK:
		return api.Token{Kind: api.TokInt, N: n}, size, api.OK
	case api.ErrForm:
		e = api.ErrToken
	}
	return api.Token{}, 0, e
}

// readString reads a quoted string.
func readString(rest string) (api.Token, int, api.Errno) {
	size := quotedSize(rest)
	// Of no bytes, where the string does not end, Unquote makes an error too.
	s, e := word.Unquote(rest[:size])
	if e != api.OK {
		return api.Token{}, 0, api.ErrToken
	}
	return api.Token{Kind: api.TokString, Text: s}, size, api.OK
}

// readSign reads a symbol.
func readSign(rest string) (api.Token, int, api.Errno) {
	for _, s := range symbols {
		if strings.HasPrefix(rest, s) {
			return text(api.TokSign, s), len(s), api.OK
		}
	}
	return api.Token{}, 0, api.ErrToken
}

// text returns a token that says s. A clone, as a piece of the source would share its memory.
func text(kind int, s string) api.Token {
	return api.Token{Kind: kind, Text: strings.Clone(s)}
}

// nameSize returns how many name bytes s begins with.
func nameSize(s string) int {
	for i, r := range s {
		if !isNameRune(r) {
			return i
		}
	}
	return len(s)
}

// quotedSize returns how many bytes the quoted string has that s begins with, or 0 if it does not end.
func quotedSize(s string) int {
	odd := false // whether the number of \ just before is odd
	for i, r := range s {
		if r == '"' && i > 0 && !odd {
			return i + 1
		}
		odd = r == '\\' && !odd
	}
	return 0
}

// isNameRune reports whether r is a name byte.
func isNameRune(r rune) bool {
	return beginsName(r) || isUpper(r) || isDigit(r)
}

// beginsName reports whether a keyword or a name may begin with r.
func beginsName(r rune) bool {
	return r >= 'a' && r <= 'z' || r == '_'
}

// isUpper reports whether r is an uppercase letter. Those beyond ASCII are none here.
func isUpper(r rune) bool {
	return r >= 'A' && r <= 'Z'
}

// isDigit reports whether r is a digit. Those beyond ASCII are none here.
func isDigit(r rune) bool {
	return r >= '0' && r <= '9'
}
