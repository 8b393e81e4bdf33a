package store

import (
	"marquetry/api"
	"marquetry/word"
)

const (
	wordBytes = 8
	mostBytes = wordBytes * (api.MaxObject - 1) // of a text: one field is the count
)

// Text allocates an object that holds t: the number of its bytes, then the bytes, eight a field.
func (s *Store) Text(t string, roots []api.Word) (api.Word, api.Errno) {
	if len(t) > mostBytes {
		return 0, api.ErrRange
	}
	w, e := s.Alloc(api.KindString, int(fieldsFor(int64(len(t)))), roots)
	if e != api.OK {
		return 0, e
	}
	s.Set(w, 0, word.Of(int64(len(t))))
	for i := 1; t != ""; i++ {
		n := min(len(t), wordBytes)
		s.Set(w, i, pack(t[:n]))
		t = t[n:]
	}
	return w, api.OK
}

// String returns the text that the object holds that w reaches.
func (s *Store) String(w api.Word) (string, api.Errno) {
	kind := s.Kind(w)
	if kind == api.KindFree {
		return "", api.ErrAddr
	}
	if kind != api.KindString {
		return "", api.ErrKind
	}
	// An object without fields has no count: then this is 0, which is not the word of a number.
	count, _ := s.Get(w, 0)
	n, size := word.Num(count), s.Size(w)
	if !word.IsNum(count) || n < 0 || fieldsFor(n) != int64(size) {
		return "", api.ErrForm
	}
	t := make([]byte, 0, wordBytes*size)
	for i := 1; i < size; i++ {
		x, _ := s.Get(w, i)
		t = unpack(t, x)
	}
	return string(t[:n]), api.OK
}

// fieldsFor returns how many fields a text of n bytes requires. It is asked for any number that a field may hold, so it counts in 64 bits.
func fieldsFor(n int64) int64 {
	return 1 + (n+wordBytes-1)/wordBytes
}

// pack returns the word of at most eight bytes, the first one lowest.
func pack(t string) api.Word {
	w := api.Word(0)
	for i := range len(t) {
		w |= api.Word(t[i]) << (8 * i)
	}
	return w
}

// unpack appends the eight bytes of a word to t.
func unpack(t []byte, w api.Word) []byte {
	for i := range wordBytes {
		t = append(t, byte(w>>(8*i)))
	}
	return t
}
