package lex_test

import (
	"math/rand"
	"slices"
	"strconv"
	"strings"
	"sync"
	"testing"
	"unsafe"

	"marquetry/api"
	"marquetry/lex"
	"marquetry/word"
)

// keywords are the keywords, as the chapter lists them.
func keywords() []string {
	return strings.Split("let, rec, in, fun, match, with, end, if, then, else, true, false, raise, try, not, ref, array, get, set, len, size, byte, cat, getc, putc", ", ")
}

// symbols are the symbols, as the chapter lists them.
func symbols() []string {
	return strings.Fields("-> := && || ( ) { } = ; , . | + - * / % < !")
}

func tok(kind, at int, text string) api.Token {
	return api.Token{Kind: kind, At: at, Text: text}
}

func number(at int, n int64) api.Token {
	return api.Token{Kind: api.TokInt, At: at, N: n}
}

// reads fails if a source is not read as these tokens and the one that ends them.
func reads(t *testing.T, src string, want ...api.Token) {
	t.Helper()
	want = append(want, tok(api.TokEnd, len(src), ""))
	if got, e, at := lex.Lex(src); !slices.Equal(got, want) || e != api.OK || at != 0 {
		t.Errorf("%.60q: %v, %d, %d, want %v", src, got, e, at, want)
	}
}

// fails fails if a source is not refused at this offset.
func fails(t *testing.T, src string, want api.Errno, place int) {
	t.Helper()
	if got, e, at := lex.Lex(src); len(got) != 0 || e != want || at != place {
		t.Errorf("%.60q: %v, %d, %d, want no tokens, %d, %d", src, got, e, at, want, place)
	}
}

func TestExamples(t *testing.T) {
	reads(t, "let x=#A 5", tok(api.TokWord, 0, "let"), tok(api.TokName, 4, "x"), tok(api.TokSign, 5, "="), tok(api.TokTag, 6, "A"), number(9, 5))
	reads(t, "a->b:=c", tok(api.TokName, 0, "a"), tok(api.TokSign, 1, "->"), tok(api.TokName, 3, "b"), tok(api.TokSign, 4, ":="), tok(api.TokName, 6, "c"))
	for _, src := range []string{"12a", "#a", `"a`, "&"} {
		fails(t, src, api.ErrToken, 0)
	}
	fails(t, "x 4611686018427387904", api.ErrRange, 2)
}

func TestP5_1_Length(t *testing.T) {
	reads(t, "")
	for _, piece := range []string{" ", "\n", " \n"} {
		reads(t, strings.Repeat(piece, api.MaxSource/len(piece)))
	}
	for _, n := range []int{api.MaxSource - 1, api.MaxSource} {
		name := strings.Repeat("z", n)
		reads(t, name, tok(api.TokName, 0, name))
		reads(t, "#"+strings.ToUpper(name)[1:], tok(api.TokTag, 0, strings.ToUpper(name)[1:]))
		reads(t, `"`+name[2:]+`"`, tok(api.TokString, 0, name[2:]))
		fails(t, strings.Repeat("9", n), api.ErrRange, 0)
		fails(t, strings.Repeat(" ", n-1)+"&", api.ErrToken, n-1)
		var signs []api.Token
		for i := range n {
			signs = append(signs, tok(api.TokSign, i, "("))
		}
		reads(t, strings.Repeat("(", n), signs...)
	}
	// The length is looked at before anything else.
	for _, src := range []string{" ", "a", "9", `"`, "&", "\xff", "é", "(", "99999999999999999999 "} {
		fails(t, strings.Repeat(src, api.MaxSource+1)[:api.MaxSource+1], api.ErrBytes, 0)
		fails(t, strings.Repeat(src, 1<<16), api.ErrBytes, 0)
	}
	// It is counted in bytes, not in runes.
	fails(t, strings.Repeat("é", api.MaxSource/2), api.ErrToken, 0)
	fails(t, strings.Repeat("é", api.MaxSource/2+1), api.ErrBytes, 0)
}

func TestP5_1_Spaces(t *testing.T) {
	reads(t, "  a\n\n b\n", tok(api.TokName, 2, "a"), tok(api.TokName, 6, "b"))
	reads(t, "a\nb c", tok(api.TokName, 0, "a"), tok(api.TokName, 2, "b"), tok(api.TokName, 4, "c"))
	for _, c := range []string{"\t", "\r", "\v", "\f", "\x00", "\u00a0", "\u2028", "\x85"} {
		fails(t, "a "+c+" b", api.ErrToken, 2)
	}
}

func TestP5_1_FirstBytes(t *testing.T) {
	for c := range 256 {
		src := string([]byte{' ', byte(c)})
		switch {
		case c == 10 || c == 32:
			reads(t, src)
		case c >= 'a' && c <= 'z' || c == '_':
			reads(t, src, tok(api.TokName, 1, src[1:]))
		case c >= 'A' && c <= 'Z':
			reads(t, src, tok(api.TokUpper, 1, src[1:]))
		case c >= '0' && c <= '9':
			reads(t, src, number(1, int64(c-'0')))
		case slices.Contains(symbols(), src[1:]):
			reads(t, src, tok(api.TokSign, 1, src[1:]))
		default:
			fails(t, src, api.ErrToken, 1)
		}
	}
}

func TestP5_1_Names(t *testing.T) {
	for _, w := range keywords() {
		reads(t, w, tok(api.TokWord, 0, w))
		for _, name := range []string{w + "_", "_" + w, w + "0", w + "x", "x" + w, w + w, w + "A", w[:1] + strings.ToUpper(w[1:])} {
			reads(t, "\n"+name+" ", tok(api.TokName, 1, name))
		}
		upper := strings.ToUpper(w[:1]) + w[1:]
		reads(t, upper, tok(api.TokUpper, 0, upper))
		reads(t, "#"+upper, tok(api.TokTag, 0, upper))
		fails(t, " #"+w, api.ErrToken, 1)
	}
	whole := "abcdefghijklmnopqrstuvwxyzABCDEFGHIJKLMNOPQRSTUVWXYZ0123456789_"
	reads(t, whole, tok(api.TokName, 0, whole))
	reads(t, "Z"+whole, tok(api.TokUpper, 0, "Z"+whole))
	reads(t, "#Z"+whole, tok(api.TokTag, 0, "Z"+whole))
	reads(t, "_0 __ _A _", tok(api.TokName, 0, "_0"), tok(api.TokName, 3, "__"), tok(api.TokName, 6, "_A"), tok(api.TokName, 9, "_"))
	reads(t, "lets let", tok(api.TokName, 0, "lets"), tok(api.TokWord, 5, "let"))
	fails(t, "ab'", api.ErrToken, 2)
	// Letters and digits beyond ASCII are none.
	for _, r := range []string{"é", "É", "٣", "ﬁ", "\u212a", "\u017f", "\xe9", "\xc3", "\x80", "\ufeff"} {
		fails(t, r, api.ErrToken, 0)
		fails(t, "a"+r, api.ErrToken, 1)
		fails(t, "A"+r+"b", api.ErrToken, 1)
		fails(t, "#A"+r, api.ErrToken, 2)
		fails(t, "#"+r, api.ErrToken, 0)
		fails(t, "12"+r, api.ErrToken, 2)
	}
}

func TestP5_1_Tags(t *testing.T) {
	reads(t, "#A#B_1", tok(api.TokTag, 0, "A"), tok(api.TokTag, 2, "B_1"))
	reads(t, "x#Foo9y z", tok(api.TokName, 0, "x"), tok(api.TokTag, 1, "Foo9y"), tok(api.TokName, 8, "z"))
	for _, src := range []string{"#", "# A", "#\nA", "##A", "#_A", "#a", "#1", "#(", `#"A"`} {
		fails(t, src, api.ErrToken, 0)
		fails(t, "#A "+src, api.ErrToken, 3)
	}
}

func TestP5_1_Numbers(t *testing.T) {
	reads(t, "0 7 10 4611686018427387903", number(0, 0), number(2, 7), number(4, 10), number(7, 1<<62-1))
	reads(t, "-1", tok(api.TokSign, 0, "-"), number(1, 1))
	reads(t, "1.2(3", number(0, 1), tok(api.TokSign, 1, "."), number(2, 2), tok(api.TokSign, 3, "("), number(4, 3))
	for _, src := range []string{"00", "01", "007", "1_000", "0x1f", "1A", "12a34", "4611686018427387904a", "04611686018427387904", "99999999999999999999999_"} {
		fails(t, " "+src, api.ErrToken, 1)
	}
	for _, src := range []string{"4611686018427387904", "4611686018427387910", "9223372036854775808", "18446744073709551616", "18446744073709551617", "99999999999999999999999"} {
		fails(t, "(\n"+src+")", api.ErrRange, 2)
	}
}

func TestP5_1_Strings(t *testing.T) {
	reads(t, `""`, tok(api.TokString, 0, ""))
	reads(t, `"" ""a"b"`, tok(api.TokString, 0, ""), tok(api.TokString, 3, ""), tok(api.TokName, 5, "a"), tok(api.TokString, 6, "b"))
	reads(t, `"\""`, tok(api.TokString, 0, `"`))
	reads(t, `"\\""\\\\"`, tok(api.TokString, 0, `\`), tok(api.TokString, 4, `\\`))
	reads(t, `"\\\"" x`, tok(api.TokString, 0, `\"`), tok(api.TokName, 7, "x"))
	reads(t, `"a b#let/&'\n\xc8\x00\""`, tok(api.TokString, 0, "a b#let/&'\n\xc8\x00\""))
	for _, src := range []string{`"`, `"a`, `"\`, `"\"`, `"\\\"`, `"\\`} { // without an end
		fails(t, src, api.ErrToken, 0)
		fails(t, "\n"+`"ok" `+src, api.ErrToken, 6)
		fails(t, src+" a\n", api.ErrToken, 0)
	}
	for _, src := range []string{
		`"\q"`, `"\x4"`, `"\x41"`, `"\xC8"`, `"\x0a"`, `"\ "`, `"\N"`, `"\xgg"`, // other notations
		"\"\n\"", "\"\t\"", "\"\x00\"", "\"é\"", "\"\xff\"", "\"\x7f\"", // bytes that stand for none
	} {
		fails(t, src, api.ErrToken, 0)
		fails(t, "\n"+`"ok" `+src, api.ErrToken, 6)
		fails(t, src+` "ok"x`, api.ErrToken, 0)
	}
	// What stands after the end is read on its own.
	fails(t, `"a"é`, api.ErrToken, 3)
	fails(t, `"a\\"\"`, api.ErrToken, 5)
	for c := range 256 {
		s := strings.Repeat(string([]byte{byte(c)}), 3)
		reads(t, word.Quote(s)+"a", tok(api.TokString, 0, s), tok(api.TokName, len(word.Quote(s)), "a"))
	}
}

func TestP5_1_Symbols(t *testing.T) {
	for _, a := range symbols() {
		reads(t, " "+a, tok(api.TokSign, 1, a))
		reads(t, "x"+a+"1", tok(api.TokName, 0, "x"), tok(api.TokSign, 1, a), number(1+len(a), 1))
		for _, b := range symbols() {
			if a+b == "||" || a+b == "|||" {
				continue
			}
			reads(t, a+b, tok(api.TokSign, 0, a), tok(api.TokSign, len(a), b))
		}
	}
	reads(t, "|||", tok(api.TokSign, 0, "||"), tok(api.TokSign, 2, "|"))
	reads(t, "||||", tok(api.TokSign, 0, "||"), tok(api.TokSign, 2, "||"))
	reads(t, "| |", tok(api.TokSign, 0, "|"), tok(api.TokSign, 2, "|"))
	reads(t, "-->", tok(api.TokSign, 0, "-"), tok(api.TokSign, 1, "->"))
	reads(t, "- <=", tok(api.TokSign, 0, "-"), tok(api.TokSign, 2, "<"), tok(api.TokSign, 3, "="))
	fails(t, "->>", api.ErrToken, 2)
	fails(t, "&&&", api.ErrToken, 2)
	fails(t, "- >", api.ErrToken, 2)
	fails(t, ": =", api.ErrToken, 0)
	fails(t, "::=", api.ErrToken, 0)
	fails(t, "& &", api.ErrToken, 0)
	fails(t, "(* [ *)", api.ErrToken, 3)
}

func TestP5_1_FirstFault(t *testing.T) {
	fails(t, "a 01 4611686018427387904", api.ErrToken, 2)
	fails(t, "a 4611686018427387904 01", api.ErrRange, 2)
	fails(t, "a & \"", api.ErrToken, 2)
	fails(t, "\"a & 99999999999999999999", api.ErrToken, 0)
}

func TestP5_2_Words(t *testing.T) {
	for _, w := range keywords() {
		if !lex.IsWord(w) || lex.IsName(w) {
			t.Errorf("%q: %v, %v", w, lex.IsWord(w), lex.IsName(w))
		}
		for _, s := range []string{w + " ", " " + w, w + "\x00", strings.ToUpper(w), w + "," + w, w[1:] + " "} {
			if lex.IsWord(s) || lex.IsName(s) {
				t.Errorf("%q: %v, %v", s, lex.IsWord(s), lex.IsName(s))
			}
		}
		for _, s := range []string{w + "_", "_" + w, w + "2", w + w, w[:1] + "Z"} {
			if lex.IsWord(s) || !lex.IsName(s) {
				t.Errorf("%q: %v, %v", s, lex.IsWord(s), lex.IsName(s))
			}
		}
	}
	for _, w := range append(symbols(), "", "and", "or", "of", "while", "int", "Match", "#A", "0", `"a"`) {
		if lex.IsWord(w) {
			t.Errorf("%q is no keyword", w)
		}
	}
}

// isText reports what P5.2 says of names, by Lex.
func isText(s string) bool {
	l, e, _ := lex.Lex(s)
	return e == api.OK && l[0].Kind == api.TokName && l[0].Text == s
}

func TestP5_2_Names(t *testing.T) {
	for a := range 256 {
		for b := range 257 {
			s := string([]byte{byte(a), byte(b)})
			if b == 256 {
				s = s[:1]
			}
			if lex.IsName(s) != isText(s) {
				t.Errorf("IsName(%q) = %v", s, lex.IsName(s))
			}
		}
	}
	for s, want := range map[string]bool{"": false, "x": true, "_": true, "a9_Z": true, "in": false, "ins": true, "a b": false, "a ": false, " a": false, "a\n": false, "Foo": false, "9a": false, "é": false, "aé": false, "a\xff": false, "\xffa": false, "abc.d": false} {
		if lex.IsName(s) != want {
			t.Errorf("IsName(%q) = %v", s, !want)
		}
	}
	// That a text is too long for a source is Lex's error alone.
	for _, n := range []int{api.MaxSource - 1, api.MaxSource, api.MaxSource + 1, 1 << 20} {
		long := strings.Repeat("n", n)
		if !lex.IsName(long) || lex.IsName(long+"-") || lex.IsName("N"+long) || lex.IsWord(long) {
			t.Errorf("%d bytes", n)
		}
	}
	if lex.IsWord(strings.Repeat("let", 1<<20)) {
		t.Error("a long text")
	}
}

// randomToken returns a token, and a text that is read as it.
func randomToken(r *rand.Rand) (api.Token, string) {
	const names = "abyz_ABYZ0189"
	name := make([]byte, r.Intn(6))
	for i := range name {
		name[i] = names[r.Intn(len(names))]
	}
	upper := string("AMZ"[r.Intn(3)]) + string(name)
	switch r.Intn(7) {
	case 0:
		s := string("amz_"[r.Intn(4)]) + string(name)
		return tok(api.TokName, 0, s), s
	case 1:
		return tok(api.TokUpper, 0, upper), upper
	case 2:
		return tok(api.TokTag, 0, upper), "#" + upper
	case 3:
		n := r.Int63n(1<<62) >> r.Intn(62)
		return number(0, n), strconv.FormatInt(n, 10)
	case 4:
		b := make([]byte, r.Intn(5))
		for i := range b {
			b[i] = "a\"\\\n #\xc3\xa9\x00"[r.Intn(9)]
		}
		return tok(api.TokString, 0, string(b)), word.Quote(string(b))
	case 5:
		l := keywords()
		s := l[r.Intn(len(l))]
		return tok(api.TokWord, 0, s), s
	}
	l := symbols()
	s := l[r.Intn(len(l))]
	return tok(api.TokSign, 0, s), s
}

func TestP5_3_ReadAgain(t *testing.T) {
	r := rand.New(rand.NewSource(5))
	for range 3000 {
		var once, spaced strings.Builder
		var want, other []api.Token
		for range r.Intn(20) {
			token, s := randomToken(r)
			token.At = once.Len()
			want = append(want, token)
			once.WriteString(s + " ")
			spaced.WriteString(strings.Repeat([]string{" ", "\n", "\n "}[r.Intn(3)], r.Intn(4)))
			token.At = spaced.Len()
			other = append(other, token)
			spaced.WriteString(s + []string{" ", "\n"}[r.Intn(2)])
		}
		reads(t, once.String(), want...)
		reads(t, spaced.String(), other...)
	}
}

// pieces are texts that are often parts of a token.
func pieces() []string {
	return append(append(keywords(), symbols()...), ":", "&", "#", "\"", "\\", "\\\"", "\\n", "\\x", "c8", " ", " ", "\n", "\t", "é", "\xff", "A", "Foo", "x", "_", "0", "1", "42", "4611686018427387903", "4611686018427387904", "\"a\"", "#A", "\x00")
}

// randomSource returns a text of so many pieces.
func randomSource(r *rand.Rand, pieces []string, n int) string {
	var b strings.Builder
	for range n {
		b.WriteString(pieces[r.Intn(len(pieces))])
	}
	return b.String()
}

// TestP1_Rules: no call panics, an error leaves no tokens, and neither earlier calls nor others at the same time change a result.
func TestP1_Rules(t *testing.T) {
	type result struct {
		l            []api.Token
		e            api.Errno
		at           int
		isWord, name bool
	}
	run := func() []result {
		r := rand.New(rand.NewSource(1))
		var l []result
		for i := range 3000 {
			src := randomSource(r, pieces(), r.Intn(3+i))
			var x result
			x.l, x.e, x.at = lex.Lex(src)
			x.isWord, x.name = lex.IsWord(src), lex.IsName(src)
			l = append(l, x)
		}
		return l
	}
	first := run()
	errors := map[api.Errno]int{}
	for _, x := range first {
		errors[x.e]++
		if x.e != api.OK && len(x.l) != 0 || x.e == api.OK && x.at != 0 || x.isWord && x.name {
			t.Fatalf("%+v", x)
		}
	}
	for _, e := range []api.Errno{api.OK, api.ErrBytes, api.ErrToken, api.ErrRange} {
		if errors[e] == 0 {
			t.Errorf("no call returned %d", e)
		}
	}
	var wait sync.WaitGroup
	for range 4 {
		wait.Go(func() {
			for i, x := range run() {
				y := first[i]
				if !slices.Equal(x.l, y.l) || x.e != y.e || x.at != y.at || x.isWord != y.isWord || x.name != y.name {
					t.Errorf("another result: %+v, then %+v", y, x)
					return
				}
			}
		})
	}
	wait.Wait()
}

// TestP1_OwnMemory: no text of a token is a piece of the source, and what a caller does to the tokens changes no later ones.
func TestP1_OwnMemory(t *testing.T) {
	src := "let x = #Foo Bar \"text\" -> 12"
	first, _, _ := lex.Lex(src)
	want := slices.Clone(first)
	from := uintptr(unsafe.Pointer(unsafe.StringData(src)))
	for _, token := range first {
		if token.Text == "" {
			continue
		}
		at := uintptr(unsafe.Pointer(unsafe.StringData(token.Text)))
		if at >= from && at < from+uintptr(len(src)) {
			t.Errorf("%q is a piece of the source", token.Text)
		}
	}
	for i := range first {
		first[i] = tok(-1, -1, "")
	}
	if again, _, _ := lex.Lex(src); !slices.Equal(again, want) {
		t.Errorf("%v, then %v", want, again)
	}
}
