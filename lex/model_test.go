package lex_test

import (
	"math/rand"
	"slices"
	"strings"
	"testing"

	"marquetry/api"
	"marquetry/lex"
	"marquetry/word"
)

const (
	lower     = "abcdefghijklmnopqrstuvwxyz_"
	upper     = "ABCDEFGHIJKLMNOPQRSTUVWXYZ"
	digits    = "0123456789"
	nameBytes = lower + upper + digits
)

// longest returns the longest sequence of name bytes that s begins with.
func longest(s string) string {
	return s[:len(s)-len(strings.TrimLeft(s, nameBytes))]
}

// closing returns the bytes of s, which begins with a quotation mark, up to and including the one that ends it; or none.
func closing(s string) string {
	for i := 1; i < len(s); i++ {
		before := s[1:i]
		if s[i] == '"' && (len(before)-len(strings.TrimRight(before, `\`)))%2 == 0 {
			return s[:i+1]
		}
	}
	return ""
}

// modelToken reads one token by the chapter's words. The order of its cases is not that of the chapter: the first byte decides, so that it doesn't matter.
func modelToken(s string) (api.Token, int, api.Errno) {
	name := longest(s)
	switch c := s[:1]; {
	case strings.Contains(digits, c):
		n, e := word.Read(name)
		if e == api.ErrForm {
			e = api.ErrToken
		}
		return number(0, n), len(name), e
	case strings.Contains(upper, c):
		return tok(api.TokUpper, 0, name), len(name), api.OK
	case strings.Contains(lower, c) && slices.Contains(keywords(), name):
		return tok(api.TokWord, 0, name), len(name), api.OK
	case strings.Contains(lower, c):
		return tok(api.TokName, 0, name), len(name), api.OK
	case c == `"`:
		text, e := word.Unquote(closing(s))
		if e != api.OK {
			e = api.ErrToken
		}
		return tok(api.TokString, 0, text), len(closing(s)), e
	case c == "#":
		name = longest(s[1:])
		if name == "" || !strings.Contains(upper, name[:1]) {
			return api.Token{}, 0, api.ErrToken
		}
		return tok(api.TokTag, 0, name), 1 + len(name), api.OK
	}
	best := ""
	for _, x := range symbols() {
		if strings.HasPrefix(s, x) && len(x) > len(best) {
			best = x
		}
	}
	if best == "" {
		return api.Token{}, 0, api.ErrToken
	}
	return tok(api.TokSign, 0, best), len(best), api.OK
}

// model reads a source by the chapter's words.
func model(src string) ([]api.Token, api.Errno, int) {
	if len(src) > api.MaxSource {
		return nil, api.ErrBytes, 0
	}
	var l []api.Token
	at := 0
	for at < len(src) {
		if src[at] == 32 || src[at] == 10 {
			at++
			continue
		}
		token, n, e := modelToken(src[at:])
		if e != api.OK {
			return nil, e, at
		}
		token.At = at
		l = append(l, token)
		at += n
	}
	return append(l, tok(api.TokEnd, at, "")), api.OK, 0
}

// agree fails if Lex does not read a source as the model does.
func agree(t *testing.T, src string) {
	t.Helper()
	l, e, at := lex.Lex(src)
	wantL, wantE, wantAt := model(src)
	if !slices.Equal(l, wantL) || e != wantE || at != wantAt {
		t.Fatalf("%q: %v, %d, %d, want %v, %d, %d", src, l, e, at, wantL, wantE, wantAt)
	}
}

func TestP5_1_ModelOfShort(t *testing.T) {
	const bytes = "aZ_09 \n#\"\\nxc:=-><&|.(!'\xc3\xa9\x00"
	var grow func(s string, left int)
	grow = func(s string, left int) {
		agree(t, s)
		if left == 0 {
			return
		}
		for i := range len(bytes) {
			grow(s+bytes[i:i+1], left-1)
		}
	}
	grow("", 3)
	for i := range len(bytes) {
		for _, s := range []string{`"\`, `"\\`, `"\x`, `"\xc`, "let", "#A", "\"\"", "4611686018427387904"} {
			grow(s+bytes[i:i+1], 1)
		}
	}
}

func TestP5_1_ModelOfRandom(t *testing.T) {
	r := rand.New(rand.NewSource(3))
	l := pieces()
	for i := range 20000 {
		agree(t, randomSource(r, l, r.Intn(2+i/100)))
	}
	for range 20000 {
		b := make([]byte, r.Intn(12))
		for i := range b {
			b[i] = "\"\"\\\\\\ax #A0"[r.Intn(11)]
		}
		agree(t, string(b))
	}
	for range 5000 {
		b := make([]byte, r.Intn(8))
		for i := range b {
			b[i] = byte(r.Intn(256))
		}
		agree(t, string(b))
	}
}
