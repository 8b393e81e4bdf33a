package store_test

import (
	"math"
	"strings"
	"testing"

	"marquetry/api"
	"marquetry/store"
	"marquetry/word"
)

// mostBytes is how many bytes a text may have.
const mostBytes = 8 * (api.MaxObject - 1)

// bytesOf returns a text of so many bytes, all different from their neighbours, the first one first.
func bytesOf(n int, first byte) string {
	b := make([]byte, n)
	for i := range b {
		b[i] = first + byte(37*i)
	}
	return string(b)
}

// holds fails if the object of a word does not hold a text as the chapter lays it.
func holds(t *testing.T, s *store.Store, w api.Word, text string) {
	t.Helper()
	if got, e := s.String(w); got != text || e != api.OK {
		t.Fatalf("String = %.20q, %d, want %.20q", got, e, text)
	}
	if s.Kind(w) != api.KindString || s.Size(w) != 1+(len(text)+7)/8 {
		t.Fatalf("%d bytes: kind %d, size %d", len(text), s.Kind(w), s.Size(w))
	}
	if x, _ := s.Get(w, 0); x != api.Word(2*len(text)+1) {
		t.Fatalf("%d bytes: the count is %d", len(text), x)
	}
	padded := text + "\x00\x00\x00\x00\x00\x00\x00"
	for i := range s.Size(w) - 1 {
		want := api.Word(0)
		for k := range 8 {
			want += api.Word(padded[8*i+k]) << (8 * k)
		}
		if x, e := s.Get(w, i+1); x != want || e != api.OK {
			t.Fatalf("%d bytes: field %d is %x, %d, want %x", len(text), i+1, x, e, want)
		}
	}
}

// put allocates a text, and fails if that fails.
func put(t *testing.T, s *store.Store, text string, roots ...api.Word) api.Word {
	t.Helper()
	w, e := s.Text(text, roots)
	if e != api.OK {
		t.Fatalf("Text of %d bytes: %d", len(text), e)
	}
	holds(t, s, w, text)
	return w
}

func TestP4_5_Texts(t *testing.T) {
	s := fresh(t, 40000)
	for n := range 100 {
		put(t, s, bytesOf(n, byte(n)))
	}
	for c := range 256 {
		put(t, s, string([]byte{byte(c)}))
		put(t, s, strings.Repeat(string([]byte{byte(c)}), 8))
	}
	for _, text := range []string{"\x00", "\x00\x00\x00\x00\x00\x00\x00\x00\x00", "é", "世界", "a\xffb", "\"\\\n"} {
		put(t, s, text)
	}
	for n := mostBytes - 9; n <= mostBytes; n += 3 {
		put(t, s, bytesOf(n, 1))
	}
	if w := put(t, s, "\x41\x42"); s.Size(w) != 2 {
		t.Errorf("size %d", s.Size(w))
	}
	if s.Cycles() != 0 {
		t.Errorf("%d cycles", s.Cycles())
	}
}

func TestP4_5_TooLong(t *testing.T) {
	s, l := laid(t, 9, 4)
	s.Pick(l[:1])
	for _, n := range []int{mostBytes + 1, mostBytes + 2, mostBytes + 8, mostBytes + 9, 1 << 20} {
		if w, e := s.Text(strings.Repeat("z", n), nil); w != 0 || e != api.ErrRange {
			t.Errorf("Text of %d bytes = %d, %d", n, w, e)
		}
		at(t, s, 0, 0, l...)
	}
	if w, e := s.Text(strings.Repeat("z", mostBytes), l[:1]); w != 0 || e != api.ErrFull {
		t.Errorf("the longest text in a small store: %d, %d", w, e)
	}
	at(t, s, 2, 6, l[0])
}

// TestP4_5_Collects: a text is allocated as any object, with cycles where there is no space.
func TestP4_5_Collects(t *testing.T) {
	s, l := laid(t, 10, 4)
	link(t, s, l[1], l[2])
	if w := put(t, s, "seven b", l[1]); w != l[3] {
		t.Errorf("the text's word is %d", w)
	}
	at(t, s, 1, 2, l[1], l[2], l[3])
	if w, e := s.Text("123456789", []api.Word{l[1]}); w != 0 || e != api.ErrFull {
		t.Errorf("Text = %d, %d", w, e)
	}
	at(t, s, 2, 5, l[1], l[2])
	s.Pick(l[1:2])
	if w := put(t, s, ""); w != l[0] {
		t.Errorf("the empty text's word is %d", w)
	}
	put(t, s, "")
	at(t, s, 2, 1, l...)
	roots := []api.Word{l[2], word.Of(5)}
	if w := put(t, s, "123456789", roots...); w != l[0] || roots[0] != l[2] || roots[1] != word.Of(5) {
		t.Errorf("the text's word is %d, the roots %d", w, roots)
	}
	at(t, s, 4, 3, l[0], l[2])
}

// TestP4_5_ReachesNothing: bytes that look like an object's word keep nothing.
func TestP4_5_ReachesNothing(t *testing.T) {
	for wait := range 5 {
		s, l := laid(t, 20, 3)
		w := put(t, s, "\x06\x00\x00\x00\x00\x00\x00\x00\x0a")
		if x, _ := s.Get(w, 1); x != l[1] {
			t.Fatalf("the field is %d", x)
		}
		s.Pick([]api.Word{l[0], w})
		picks(s, wait)
		v := put(t, s, "\x06\x00\x00\x00\x00\x00\x00\x00\x0a")
		end(t, s)
		at(t, s, 1, 9, l[0], w, v)
		holds(t, s, w, "\x06\x00\x00\x00\x00\x00\x00\x00\x0a")
		holds(t, s, v, "\x06\x00\x00\x00\x00\x00\x00\x00\x0a")
	}
}

func TestP4_5_NoText(t *testing.T) {
	s := fresh(t, 10)
	lay(t, s, api.KindRef, 1, 1)
	put(t, s, "ab")
	for _, w := range append(wrongWords(), word.Ref(4), word.Ref(5), word.Ref(6)) {
		if x, e := s.String(w); x != "" || e != api.ErrAddr {
			t.Errorf("String(%d) = %q, %d", w, x, e)
		}
	}
	for kind := api.KindClosure; kind <= api.KindArray; kind++ {
		s := fresh(t, 10)
		none := lay(t, s, kind, 0, 1)
		one := lay(t, s, kind, 1, 2)
		two := lay(t, s, kind, 2, 4)
		s.Set(two, 0, word.Of(2))
		s.Set(two, 1, 0x4241)
		for _, w := range []api.Word{none, one, two} {
			if x, e := s.String(w); x != "" || e != api.ErrKind {
				t.Errorf("String of kind %d = %q, %d", kind, x, e)
			}
		}
	}
}

// TestP4_5_Counts: for each size, those counts make a text that require exactly that many fields.
func TestP4_5_Counts(t *testing.T) {
	for size := range 6 {
		s := fresh(t, 20)
		w := lay(t, s, api.KindString, size, 1)
		want := bytesOf(8*size, 200)
		for i := 1; i < size; i++ {
			x := api.Word(0)
			for k := range 8 {
				x |= api.Word(want[8*(i-1)+k]) << (8 * k)
			}
			s.Set(w, i, x) // also behind the count's bytes: those are no part of the text
		}
		if x, e := s.String(w); size != 1 && (x != "" || e != api.ErrForm) {
			t.Errorf("size %d: a new object is %q, %d", size, x, e)
		}
		for n := int64(-70); n < 70; n++ {
			s.Set(w, 0, word.Of(n))
			x, e := s.String(w)
			if size > 0 && n >= 0 && 1+(n+7)/8 == int64(size) {
				if x != want[:n] || e != api.OK {
					t.Errorf("size %d, count %d: %q, %d", size, n, x, e)
				}
			} else if x != "" || e != api.ErrForm {
				t.Errorf("size %d, count %d: %q, %d", size, n, x, e)
			}
		}
	}
}

// TestP4_5_WrongCounts: the first field is no number, or no number of bytes.
func TestP4_5_WrongCounts(t *testing.T) {
	s := fresh(t, 20)
	w := put(t, s, "AB")
	v := put(t, s, "")
	for _, x := range []api.Word{
		0, 2, 4, word.Ref(1), word.Ref(4), word.Ref(8), math.MaxUint64 - 1, 1 << 63,
		word.Of(-1), word.Of(-6), word.Of(-7), word.Of(-8), word.Of(-14), word.Of(-1 << 62), word.Of(1<<62 - 1),
		word.Of(1 << 32), word.Of(1<<32 + 2), word.Of(1 << 35), word.Of(1 << 40), word.Of(1 << 61), word.Of(9), word.Of(16),
	} {
		for _, y := range []api.Word{w, v} {
			s.Set(y, 0, x)
			if text, e := s.String(y); text != "" || e != api.ErrForm {
				t.Errorf("the first field is %d: %q, %d", x, text, e)
			}
			if got, _ := s.Get(y, 0); got != x {
				t.Errorf("the first field is %d, was %d", got, x)
			}
		}
	}
	s.Set(w, 0, word.Of(1))
	s.Set(v, 0, word.Of(0))
	if x, e := s.String(w); x != "A" || e != api.OK {
		t.Errorf("%q, %d", x, e)
	}
	holds(t, s, v, "")
}
