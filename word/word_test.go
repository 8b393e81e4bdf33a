package word_test

import (
	"math"
	"math/big"
	"math/rand"
	"regexp"
	"strconv"
	"strings"
	"sync"
	"testing"

	"marquetry/api"
	"marquetry/word"
)

const (
	most  = 1<<62 - 1
	least = -1 << 62
)

// edges are integers at the ends of the 63 and the 64 bits, and around 0.
func edges() []int64 {
	var l []int64
	for _, n := range []int64{0, 1 << 31, -1 << 31, 1 << 32, most, least, math.MaxInt64, math.MinInt64} {
		for d := int64(-2); d <= 2; d++ {
			l = append(l, n+d)
		}
	}
	return append(l, 7, -7, 1000003, -1000003, 3037000500)
}

// samples are the edges, and integers of all lengths from a fixed seed.
func samples() []int64 {
	l := edges()
	r := rand.New(rand.NewSource(1))
	for i := range 64 {
		l = append(l, int64(r.Uint64()>>i), -int64(r.Uint64()>>i))
	}
	return l
}

// wrapped is what the chapter calls wrapped, worked out without a bound.
func wrapped(n *big.Int) int64 {
	whole := new(big.Int).Lsh(big.NewInt(1), 63)
	m := new(big.Int).Mod(n, whole)
	if m.Cmp(big.NewInt(most)) > 0 {
		m.Sub(m, whole)
	}
	return m.Int64()
}

func TestP1_1_Numbers(t *testing.T) {
	for _, n := range samples() {
		want := wrapped(big.NewInt(n))
		if got := word.Wrap(n); got != want {
			t.Errorf("Wrap(%d) = %d, want %d", n, got, want)
		}
		if got := word.Of(n); got != api.Word(2*uint64(want)+1) {
			t.Errorf("Of(%d) = %d", n, got)
		}
		if w := word.Of(n); !word.IsNum(w) || word.Num(w) != want || word.Addr(w) != 0 {
			t.Errorf("the word of %d: IsNum %v, Num %d, Addr %d", n, word.IsNum(w), word.Num(w), word.Addr(w))
		}
		if w := word.Of(n); word.Num(w&^1) != want || word.IsNum(w&^1) {
			t.Errorf("the word of %d without its lowest bit: Num %d", n, word.Num(w&^1))
		}
	}
}

func TestP1_1_Examples(t *testing.T) {
	if word.Wrap(1<<62) != least || word.Wrap(least-1) != most || word.Wrap(math.MaxInt64) != -1 || word.Wrap(math.MinInt64) != 0 {
		t.Error("Wrap")
	}
	if word.Of(-1) != math.MaxUint64 || word.Of(0) != 1 || word.Num(word.Of(1<<62)) != least {
		t.Error("Of, Num")
	}
}

func TestP1_1_Addresses(t *testing.T) {
	for _, a := range []int{0, 1, 2, 5, api.MaxWords, 1<<31 - 2, 1<<31 - 1} {
		if w := word.Ref(a); w != api.Word(2*a) || word.IsNum(w) || word.Addr(w) != a {
			t.Errorf("address %d: Ref %d, Addr %d", a, w, word.Addr(w))
		}
	}
	for _, a := range []int{-1, -2, 1 << 31, 1<<31 + 1, 1 << 32, math.MaxInt, math.MinInt} {
		if w := word.Ref(a); w != 0 {
			t.Errorf("Ref(%d) = %d, want 0", a, w)
		}
	}
	for _, w := range []api.Word{1, 3, 11, 1<<32 - 1, 1 << 32, 1<<32 + 2, 1 << 63, math.MaxUint64, math.MaxUint64 - 1} {
		if a := word.Addr(w); a != 0 {
			t.Errorf("Addr(%d) = %d, want 0", w, a)
		}
	}
}

// truth is the number for whether something holds.
func truth(holds bool) *big.Int {
	if holds {
		return big.NewInt(1)
	}
	return new(big.Int)
}

// meaning works an operation out without a bound; nil: it has no result.
func meaning(op int, a, b *big.Int) *big.Int {
	z := new(big.Int)
	switch op {
	case api.OpAdd:
		return z.Add(a, b)
	case api.OpSub:
		return z.Sub(a, b)
	case api.OpMul:
		return z.Mul(a, b)
	case api.OpNeg:
		return z.Neg(a)
	case api.OpEq:
		return truth(a.Cmp(b) == 0)
	case api.OpLt:
		return truth(a.Cmp(b) < 0)
	case api.OpNot:
		return truth(a.Sign() == 0)
	}
	if b.Sign() == 0 {
		return nil
	}
	if op == api.OpDiv {
		return z.Quo(a, b)
	}
	return z.Rem(a, b)
}

func TestP1_2_Meaning(t *testing.T) {
	for op := api.OpAdd; op <= api.OpNot; op++ {
		for _, a := range samples() {
			for _, b := range samples() {
				got, e := word.Do(op, a, b)
				want := meaning(op, big.NewInt(wrapped(big.NewInt(a))), big.NewInt(wrapped(big.NewInt(b))))
				if want == nil {
					if got != 0 || e != api.ErrRange {
						t.Fatalf("Do(%d, %d, %d) = %d, %d, want ErrRange", op, a, b, got, e)
					}
				} else if got != wrapped(want) || e != api.OK {
					t.Fatalf("Do(%d, %d, %d) = %d, %d, want %d", op, a, b, got, e, wrapped(want))
				}
			}
		}
	}
}

func TestP1_2_Examples(t *testing.T) {
	for _, c := range []struct {
		op         int
		a, b, want int64
		e          api.Errno
	}{
		{api.OpAdd, most, 1, least, api.OK},
		{api.OpSub, 3, 5, -2, api.OK},
		{api.OpMul, 1 << 31, 1 << 31, least, api.OK},
		{api.OpDiv, -7, 2, -3, api.OK},
		{api.OpDiv, 7, -2, -3, api.OK},
		{api.OpRem, -7, 2, -1, api.OK},
		{api.OpRem, 7, -2, 1, api.OK},
		{api.OpDiv, least, -1, least, api.OK},
		{api.OpRem, least, -1, 0, api.OK},
		{api.OpDiv, 1, 0, 0, api.ErrRange},
		{api.OpRem, 1, 0, 0, api.ErrRange},
		{api.OpDiv, 1, math.MinInt64, 0, api.ErrRange}, // -2^63 wrapped is 0
		{api.OpNeg, least, 0, least, api.OK},
		{api.OpNeg, 4, 9, -4, api.OK},
		{api.OpEq, 1 << 62, least, 1, api.OK},
		{api.OpLt, -1, 0, 1, api.OK},
		{api.OpLt, 1 << 62, 0, 1, api.OK},
		{api.OpLt, 2, 2, 0, api.OK},
		{api.OpNot, math.MinInt64, 7, 1, api.OK},
		{api.OpNot, -1, 0, 0, api.OK},
	} {
		if got, e := word.Do(c.op, c.a, c.b); got != c.want || e != c.e {
			t.Errorf("Do(%d, %d, %d) = %d, %d, want %d, %d", c.op, c.a, c.b, got, e, c.want, c.e)
		}
	}
}

func TestP1_2_OtherOperations(t *testing.T) {
	ops := []int{0, -1, math.MinInt, math.MaxInt, api.OpPutc + 1}
	for op := api.OpRef; op <= api.OpPutc; op++ {
		ops = append(ops, op)
	}
	for _, op := range ops {
		for _, b := range []int64{0, 1} {
			if got, e := word.Do(op, 5, b); got != 0 || e != api.ErrArg {
				t.Errorf("Do(%d, 5, %d) = %d, %d, want ErrArg", op, b, got, e)
			}
		}
	}
}

func TestP1_3_Text(t *testing.T) {
	for _, n := range samples() {
		if got, want := word.Text(n), big.NewInt(n).String(); got != want {
			t.Errorf("Text(%d) = %s", n, got)
		}
	}
}

func TestP1_3_Read(t *testing.T) {
	for _, c := range []struct {
		s string
		n int64
		e api.Errno
	}{
		{"0", 0, api.OK},
		{"7", 7, api.OK},
		{"10", 10, api.OK},
		{"4611686018427387899", 4611686018427387899, api.OK},
		{"4611686018427387903", most, api.OK},
		{"4611686018427387904", 0, api.ErrRange},
		{"4611686018427387909", 0, api.ErrRange},
		{"4611686018427387910", 0, api.ErrRange},
		{"9223372036854775808", 0, api.ErrRange},
		{"9999999999999999999", 0, api.ErrRange},
		{"18446744073709551616", 0, api.ErrRange}, // 2^64
		{"18446744073709551617", 0, api.ErrRange},
		{"1" + strings.Repeat("0", 5000), 0, api.ErrRange},
		{"1" + strings.Repeat("0", 5000) + "a", 0, api.ErrForm},
		{"", 0, api.ErrForm},
		{"00", 0, api.ErrForm},
		{"01", 0, api.ErrForm},
		{"04611686018427387904", 0, api.ErrForm},
		{"-1", 0, api.ErrForm},
		{"+1", 0, api.ErrForm},
		{"-0", 0, api.ErrForm},
		{" 1", 0, api.ErrForm},
		{"1 ", 0, api.ErrForm},
		{"1_000", 0, api.ErrForm},
		{"0x1", 0, api.ErrForm},
		{"1a", 0, api.ErrForm},
		{"a", 0, api.ErrForm},
		{"1.0", 0, api.ErrForm},
		{"1e3", 0, api.ErrForm},
		{"/", 0, api.ErrForm},
		{":", 0, api.ErrForm},
		{"1\x00", 0, api.ErrForm},
		{"\xff", 0, api.ErrForm},
		{"\u0661", 0, api.ErrForm}, // a digit, but none of the ten
	} {
		if n, e := word.Read(c.s); n != c.n || e != c.e {
			t.Errorf("Read(%.30q) = %d, %d, want %d, %d", c.s, n, e, c.n, c.e)
		}
	}
}

// form is the quoted form of a byte by the chapter's list.
func form(c byte) string {
	if c == '"' || c == '\\' {
		return "\\" + string(rune(c))
	}
	if c == 10 {
		return "\\n"
	}
	if 32 <= c && c <= 126 {
		return string(rune(c))
	}
	h := strconv.FormatInt(int64(c), 16)
	return "\\x" + strings.Repeat("0", 2-len(h)) + h
}

func TestP1_4_Bytes(t *testing.T) {
	for c := range 256 {
		for d := range 256 {
			s, want := string([]byte{byte(c), byte(d)}), `"`+form(byte(c))+form(byte(d))+`"`
			if got := word.Quote(s); got != want {
				t.Fatalf("Quote(%q) = %s, want %s", s, got, want)
			}
			if got, e := word.Unquote(want); got != s || e != api.OK {
				t.Fatalf("Unquote(%s) = %q, %d", want, got, e)
			}
		}
	}
}

func TestP1_4_Examples(t *testing.T) {
	for s, want := range map[string]string{
		"":           `""`,
		"a\"\xc8":    `"a\"\xc8"`,
		"\\":         `"\\"`,
		"\\n":        `"\\n"`,
		"\n\t\r":     `"\n\x09\x0d"`,
		" ~\x1f\x7f": `" ~\x1f\x7f"`,
		"\u00e9":     `"\xc3\xa9"`,
	} {
		if got := word.Quote(s); got != want {
			t.Errorf("Quote(%q) = %s, want %s", s, got, want)
		}
	}
}

func TestP1_4_WrongForms(t *testing.T) {
	for _, q := range []string{
		"", `"`, `a`, `a"`, `"a`, `'a'`, `"a" `, ` "a"`, `""a`, `"""`, `"a"b"`,
		`"\"`, `"\\\"`, `"\`, `"\q"`, `"\N"`, `"\t"`, `"\0"`, `"\'"`,
		`"\x"`, `"\x0"`, `"\x0g"`, `"\xg0"`, `"\xC8"`, `"\X00"`, `"\x41"`, `"\x0a"`, `"\x22"`, `"\x5c"`, `"\x20"`, `"\x7e"`,
		"\"\n\"", "\"\x00\"", "\"\x1f\"", "\"\x7f\"", "\"\x80\"", "\"\xff\"", "\"\u00e9\"", "`a`",
	} {
		if got, e := word.Unquote(q); got != "" || e != api.ErrForm {
			t.Errorf("Unquote(%q) = %q, %d, want ErrForm", q, got, e)
		}
	}
}

// proper is what the quoted forms of bytes look like: each byte in one form only.
var proper = regexp.MustCompile(`^"([ !#-\[\]-~]|\\["\\n]|\\x(0[0-9b-f]|1[0-9a-f]|7f|[89a-f][0-9a-f]))*"$`)

// TestP1_4_AllShort holds Unquote against proper, for all short texts of the bytes that matter.
func TestP1_4_AllShort(t *testing.T) {
	level := []string{""}
	for range 5 {
		var longer []string
		for _, s := range level {
			for _, c := range []byte("\"\\nx017aC\n\x80") {
				longer = append(longer, s+string([]byte{c}))
			}
		}
		level = longer
		for _, s := range level {
			checkUnquote(t, s)
			checkUnquote(t, `"`+s+`"`)
		}
	}
}

// checkUnquote reports a wrong result of Unquote for s.
func checkUnquote(t *testing.T, s string) {
	got, e := word.Unquote(s)
	if !proper.MatchString(s) {
		if got != "" || e != api.ErrForm {
			t.Errorf("Unquote(%q) = %q, %d, want ErrForm", s, got, e)
		}
		return
	}
	again := ""
	for i := range len(got) {
		again += form(got[i])
	}
	if e != api.OK || `"`+again+`"` != s {
		t.Errorf("Unquote(%q) = %q, %d", s, got, e)
	}
}

func TestP1_5_Ring(t *testing.T) {
	do := func(op int, a, b int64) int64 {
		n, e := word.Do(op, a, b)
		if e != api.OK {
			t.Fatalf("Do(%d, %d, %d): %d", op, a, b, e)
		}
		return n
	}
	add, mul := api.OpAdd, api.OpMul
	for _, a := range edges() {
		w := word.Wrap(a)
		if do(add, a, 0) != w || do(mul, a, 1) != w || do(add, a, do(api.OpNeg, a, 0)) != 0 || do(api.OpSub, 0, a) != do(api.OpNeg, a, 0) {
			t.Errorf("0, 1 and the negative of %d", a)
		}
		for _, b := range edges() {
			if do(add, a, b) != do(add, b, a) || do(mul, a, b) != do(mul, b, a) || do(api.OpSub, a, b) != do(add, a, do(api.OpNeg, b, 0)) {
				t.Errorf("the order of %d and %d", a, b)
			}
			for _, c := range edges() {
				if do(add, do(add, a, b), c) != do(add, a, do(add, b, c)) || do(mul, do(mul, a, b), c) != do(mul, a, do(mul, b, c)) {
					t.Fatalf("the grouping of %d, %d and %d", a, b, c)
				}
				if do(mul, a, do(add, b, c)) != do(add, do(mul, a, b), do(mul, a, c)) {
					t.Fatalf("%d times the sum of %d and %d", a, b, c)
				}
			}
		}
	}
}

func TestP1_5_Division(t *testing.T) {
	for _, a := range samples() {
		for _, b := range samples() {
			q, e := word.Do(api.OpDiv, a, b)
			r, f := word.Do(api.OpRem, a, b)
			if word.Wrap(b) == 0 {
				if e != api.ErrRange || f != api.ErrRange {
					t.Errorf("%d by %d: %d, %d", a, b, e, f)
				}
				continue
			}
			p, _ := word.Do(api.OpMul, q, b)
			if s, _ := word.Do(api.OpAdd, p, r); s != word.Wrap(a) {
				t.Fatalf("%d by %d: %d and %d", a, b, q, r)
			}
		}
	}
}

func TestP1_5_ReadBack(t *testing.T) {
	for _, a := range samples() {
		n := word.Wrap(a)
		if n < 0 {
			if _, e := word.Read(word.Text(n)); e != api.ErrForm {
				t.Errorf("%d has a sign, and was read", n)
			}
			continue
		}
		if m, e := word.Read(word.Text(n)); m != n || e != api.OK {
			t.Errorf("%d was read back as %d, %d", n, m, e)
		}
	}
	r := rand.New(rand.NewSource(2))
	for range 2000 {
		b := make([]byte, r.Intn(40))
		for i := range b {
			b[i] = byte(r.Intn(256))
		}
		if s, e := word.Unquote(word.Quote(string(b))); s != string(b) || e != api.OK {
			t.Errorf("%q was read back as %q, %d", b, s, e)
		}
	}
	long := strings.Repeat("\x00\"a\n", 1<<18)
	if s, e := word.Unquote(word.Quote(long)); s != long || e != api.OK {
		t.Error("a long text was not read back")
	}
}

// all is what the calls of the package return for one set of arguments.
type all struct {
	wrap, num, do, read        int64
	of, ref                    api.Word
	isNum                      bool
	addr                       int
	doErr, readErr, unquoteErr api.Errno
	text, quote, unquote       string
}

func callAll(op int, a, b int64, s string) all {
	var r all
	r.wrap, r.of, r.num, r.isNum = word.Wrap(a), word.Of(a), word.Num(api.Word(b)), word.IsNum(api.Word(b))
	r.ref, r.addr, r.text, r.quote = word.Ref(int(a)), word.Addr(api.Word(b)), word.Text(b), word.Quote(s)
	r.do, r.doErr = word.Do(op, a, b)
	r.read, r.readErr = word.Read(s)
	r.unquote, r.unquoteErr = word.Unquote(s)
	return r
}

// TestP1_Rules: no call panics, an error leaves the other result zero, and neither earlier calls nor others at the same time change a result.
func TestP1_Rules(t *testing.T) {
	texts := []string{"", `"`, `""`, `"\`, `"\x`, `"\x0`, `"\xc8"`, "12", "99999999999999999999", "-", "\xff\xfe"}
	run := func() []all {
		var l []all
		for op := -2; op <= api.OpPutc+2; op++ {
			for i, a := range edges() {
				for _, b := range edges() {
					l = append(l, callAll(op, a, b, texts[(op+2+i)%len(texts)]))
				}
			}
		}
		return l
	}
	first := run()
	for _, r := range first {
		if r.doErr != api.OK && r.do != 0 || r.readErr != api.OK && r.read != 0 || r.unquoteErr != api.OK && r.unquote != "" {
			t.Fatalf("beside an error stands a result: %+v", r)
		}
	}
	var wait sync.WaitGroup
	for range 4 {
		wait.Go(func() {
			for i, r := range run() {
				if r != first[i] {
					t.Errorf("another result: %+v, then %+v", first[i], r)
					return
				}
			}
		})
	}
	wait.Wait()
}
