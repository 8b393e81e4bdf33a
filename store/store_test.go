package store_test

import (
	"math"
	"slices"
	"testing"

	"marquetry/api"
	"marquetry/store"
	"marquetry/word"
)

// fresh returns a store of so many words.
func fresh(t *testing.T, words int) *store.Store {
	t.Helper()
	s := store.New(words)
	if s == nil {
		t.Fatalf("New(%d) = nil", words)
	}
	return s
}

// lay allocates, and fails if the address is another. It returns the word.
func lay(t *testing.T, s *store.Store, kind, size, want int, roots ...api.Word) api.Word {
	t.Helper()
	w, e := s.Alloc(kind, size, roots)
	if w != word.Ref(want) || e != api.OK {
		t.Fatalf("Alloc(%d, %d) = %d, %d, want address %d", kind, size, w, e, want)
	}
	return w
}

// refuse allocates, and fails if the error is another.
func refuse(t *testing.T, s *store.Store, kind, size int, want api.Errno, roots ...api.Word) {
	t.Helper()
	if w, e := s.Alloc(kind, size, roots); w != 0 || e != want {
		t.Fatalf("Alloc(%d, %d) = %d, %d, want error %d", kind, size, w, e, want)
	}
}

// laid returns a store full of references but for some cells, the first one at 1, the next at 3; and their words.
func laid(t *testing.T, words, refs int) (*store.Store, []api.Word) {
	t.Helper()
	s := fresh(t, words)
	var l []api.Word
	for i := range refs {
		l = append(l, lay(t, s, api.KindRef, 1, 2*i+1))
	}
	return s, l
}

// link sets the field of a reference.
func link(t *testing.T, s *store.Store, w, to api.Word) {
	t.Helper()
	if e := s.Set(w, 0, to); e != api.OK {
		t.Fatalf("Set(%d, 0, %d) = %d", w, to, e)
	}
}

// picks does so many picks without roots.
func picks(s *store.Store, n int) {
	for range n {
		s.Pick(nil)
	}
}

// end picks until a cycle ends, and fails if that takes more picks than it may.
func end(t *testing.T, s *store.Store, roots ...api.Word) {
	t.Helper()
	before := s.Cycles()
	for range 100 {
		s.Pick(roots)
		if s.Cycles() > before {
			return
		}
	}
	t.Fatal("a cycle does not end")
}

// at fails if the cycles, the free cells or the objects' words are others.
func at(t *testing.T, s *store.Store, cycles, room int, want ...api.Word) {
	t.Helper()
	if s.Cycles() != cycles || s.Room() != room {
		t.Fatalf("%d cycles, room %d, want %d, %d", s.Cycles(), s.Room(), cycles, room)
	}
	if got := objects(s); !slices.Equal(got, want) {
		t.Fatalf("objects %d, want %d", got, want)
	}
}

// objects returns the words of all objects of a store of at most a thousand cells.
func objects(s *store.Store) []api.Word {
	var l []api.Word
	for addr := range 1000 {
		if w := word.Ref(addr); s.Kind(w) != 0 {
			l = append(l, w)
		}
	}
	return l
}

// wrongWords are words that reach no object of a store in which there is none at 2 and above 8.
func wrongWords() []api.Word {
	return []api.Word{
		word.Of(0), word.Of(1), word.Of(-1), word.Ref(1) + 1, word.Ref(3) + 1, word.Ref(3) - 1, math.MaxUint64,
		0, word.Ref(2), word.Ref(9), word.Ref(10), word.Ref(11), word.Ref(api.MaxWords), word.Ref(1<<31 - 1),
		1<<32 + 2, 1<<33 + 2, 1 << 63, 1<<63 + 2, 1<<63 + 6, math.MaxUint64 - 1,
	}
}

func TestExamples(t *testing.T) {
	s := fresh(t, 9)
	for i, want := range []api.Word{2, 6, 10, 14} {
		if w, e := s.Alloc(api.KindRef, 1, nil); w != want || e != api.OK {
			t.Errorf("Alloc %d = %d, %d", i, w, e)
		}
	}
	if s.Room() != 0 || s.Cycles() != 0 {
		t.Errorf("room %d, %d cycles", s.Room(), s.Cycles())
	}
	if w, e := s.Alloc(api.KindRef, 2, []api.Word{2}); w != 6 || e != api.OK || s.Cycles() != 1 {
		t.Errorf("Alloc = %d, %d, %d cycles", w, e, s.Cycles())
	}
	at(t, s, 1, 3, 2, 6)
	refuse(t, s, api.KindArray, 9, api.ErrFull)
	at(t, s, 2, 8)
}

func TestP4_1_New(t *testing.T) {
	for _, words := range []int{math.MinInt, -9, -1, 0, 1, api.MaxWords + 1, 1 << 32, math.MaxInt} {
		if store.New(words) != nil {
			t.Errorf("New(%d) is a store", words)
		}
	}
	for _, words := range []int{2, 3, 9, 64, 65, api.MaxWords - 1, api.MaxWords} {
		s := fresh(t, words)
		at(t, s, 0, words-1)
		lay(t, s, api.KindArray, 0, 1)
		at(t, s, 0, words-2, word.Ref(1))
		s.Pick(nil) // an idle collector: this begins a cycle, the next picks end it
		picks(s, 2)
		at(t, s, 0, words-1)
		picks(s, 1)
		at(t, s, 1, words-1)
	}
}

func TestP4_1_CyclesAndRoom(t *testing.T) {
	s, l := laid(t, 12, 3)
	at(t, s, 0, 5, l...)
	for cycle := range 5 {
		s.Pick(l)
		picks(s, 3+1+3) // to mark, to pass on, to sweep
		at(t, s, cycle, 5, l...)
		picks(s, 1)
		at(t, s, cycle+1, 5, l...)
	}
	lay(t, s, api.KindRecord, 4, 7)
	at(t, s, 5, 0, append(l, word.Ref(7))...)
	s.Pick(l)
	picks(s, 3+1+4+1)
	at(t, s, 6, 5, l...)
}

// TestP4_1_Apart: stores share nothing.
func TestP4_1_Apart(t *testing.T) {
	a, l := laid(t, 9, 2)
	b, _ := laid(t, 9, 2)
	link(t, a, l[0], l[1])
	b.Pick(nil)
	picks(b, 4)
	at(t, b, 1, 8)
	at(t, a, 0, 4, l...)
	if x, _ := a.Get(l[0], 0); x != l[1] {
		t.Errorf("the field is %d", x)
	}
}

// TestP4_2_Steps: each pick is one step, so what is out of reach goes at a certain one.
func TestP4_2_Steps(t *testing.T) {
	s, l := laid(t, 20, 4)
	link(t, s, l[0], l[2])
	s.Pick(l[:1])
	at(t, s, 0, 11, l...)
	picks(s, 2) // the objects 1 and 5 are marked
	picks(s, 1) // now sweeping
	at(t, s, 0, 11, l...)
	picks(s, 1) // 1 stays
	at(t, s, 0, 11, l...)
	picks(s, 1)
	at(t, s, 0, 13, l[0], l[2], l[3])
	picks(s, 1) // 5 stays
	at(t, s, 0, 13, l[0], l[2], l[3])
	picks(s, 1)
	at(t, s, 0, 15, l[0], l[2])
	picks(s, 1)
	at(t, s, 1, 15, l[0], l[2])
	s.Pick(nil) // the next cycle
	picks(s, 3)
	at(t, s, 1, 19)
	picks(s, 1)
	at(t, s, 2, 19)
}

// TestP4_2_Roots: the roots of the pick that begins the cycle count, those of the others don't. They are not changed, and not kept.
func TestP4_2_Roots(t *testing.T) {
	s, l := laid(t, 20, 4)
	roots := []api.Word{l[1], word.Of(1), 0, word.Ref(19), word.Ref(1 << 30), l[1], math.MaxUint64, 1<<33 + 2, word.Ref(2)}
	before := slices.Clone(roots)
	s.Pick(roots)
	if !slices.Equal(roots, before) {
		t.Errorf("the roots are %d", roots)
	}
	for i := range roots {
		roots[i] = l[3]
	}
	end(t, s, l[2:]...)
	at(t, s, 1, 17, l[1])
}

// TestP4_2_Snapshot: what was reached when the cycle began stays until the next one, and so does what is allocated meanwhile.
func TestP4_2_Snapshot(t *testing.T) {
	for wait := range 6 {
		s, l := laid(t, 30, 3)
		link(t, s, l[0], l[2])
		s.Pick(l[:1])
		picks(s, wait)
		link(t, s, l[0], word.Of(0))
		w, e := s.Alloc(api.KindTag, 2, nil)
		if e != api.OK {
			t.Fatal(e)
		}
		end(t, s)
		if s.Kind(l[0]) == 0 || s.Kind(l[1]) == api.KindRef || s.Kind(l[2]) == 0 || s.Kind(w) != api.KindTag {
			t.Errorf("after %d picks: objects %d, the new one %d", wait, objects(s), w)
		}
		s.Pick(l[:1])
		end(t, s)
		at(t, s, 2, 27, l[0])
	}
}

// wrongAllocs are kinds and sizes that no object has, and the errors.
func wrongAllocs() []struct {
	kind, size int
	want       api.Errno
} {
	return []struct {
		kind, size int
		want       api.Errno
	}{
		{0, 0, api.ErrKind}, {7, 1, api.ErrKind}, {-1, 1, api.ErrKind}, {math.MinInt, 1, api.ErrKind}, {math.MaxInt, 1, api.ErrKind},
		{0, -1, api.ErrKind}, {7, api.MaxObject + 1, api.ErrKind}, {1 << 32, math.MaxInt, api.ErrKind},
		{1, -1, api.ErrRange}, {6, -1, api.ErrRange}, {1, api.MaxObject + 1, api.ErrRange}, {6, 1 << 32, api.ErrRange},
		{2, math.MinInt, api.ErrRange}, {3, math.MaxInt, api.ErrRange},
	}
}

// TestP4_3_WrongArguments: nothing is collected for an object that can't be.
func TestP4_3_WrongArguments(t *testing.T) {
	s, l := laid(t, 9, 4)
	for step := range 8 {
		room, all := s.Room(), objects(s)
		for _, c := range wrongAllocs() {
			refuse(t, s, c.kind, c.size, c.want, l[0])
			at(t, s, 0, room, all...)
		}
		if step == 0 {
			s.Pick(l[:2])
		} else {
			s.Pick(nil)
		}
	}
	picks(s, 1)
	at(t, s, 1, 4, l[:2]...)
}

func TestP4_3_Space(t *testing.T) {
	s := fresh(t, 5000)
	next := 1
	for kind := api.KindString; kind <= api.KindArray; kind++ {
		for _, size := range []int{0, 1, 2, 7} {
			w := lay(t, s, kind, size, next)
			next += size + 1
			if s.Kind(w) != kind || s.Size(w) != size {
				t.Errorf("kind %d, size %d, want %d, %d", s.Kind(w), s.Size(w), kind, size)
			}
			for i := range size {
				if x, e := s.Get(w, i); x != word.Of(0) || e != api.OK {
					t.Errorf("field %d of a new object is %d, %d", i, x, e)
				}
			}
		}
	}
	lay(t, s, api.KindArray, api.MaxObject, next)
	next += api.MaxObject + 1
	if s.Cycles() != 0 || s.Room() != 5000-next {
		t.Errorf("%d cycles, room %d", s.Cycles(), s.Room())
	}
	lay(t, s, api.KindArray, 4999-next, next) // as much as there is
	if s.Cycles() != 0 || s.Room() != 0 {
		t.Errorf("%d cycles, room %d", s.Cycles(), s.Room())
	}
}

// TestP4_3_SpaceDuringCycle: while there is space, a cycle in progress goes on as if nothing were allocated.
func TestP4_3_SpaceDuringCycle(t *testing.T) {
	s, l := laid(t, 30, 3)
	s.Pick(l[:1])
	for step := range 6 {
		lay(t, s, api.KindArray, 0, 7+step)
		if s.Cycles() != 0 {
			t.Fatalf("%d cycles", s.Cycles())
		}
		if step == 2 { // one object is marked, and the phase is sweep
			break
		}
		s.Pick(nil)
	}
	at(t, s, 0, 20, append(l, word.Ref(7), word.Ref(8), word.Ref(9))...)
	picks(s, 3+3)
	at(t, s, 0, 24, l[0], word.Ref(7), word.Ref(8), word.Ref(9))
	picks(s, 1)
	at(t, s, 1, 24, l[0], word.Ref(7), word.Ref(8), word.Ref(9))
}

// TestP4_3_Idle: without space one cycle is completed, and keeps what the roots reach.
func TestP4_3_Idle(t *testing.T) {
	s, l := laid(t, 12, 5)
	link(t, s, l[0], l[3])
	roots := []api.Word{word.Of(7), l[0], l[0]}
	before := slices.Clone(roots)
	w, e := s.Alloc(api.KindRecord, 2, roots)
	if w != l[1] || e != api.OK || !slices.Equal(roots, before) {
		t.Fatalf("Alloc = %d, %d, the roots %d", w, e, roots)
	}
	at(t, s, 1, 4, l[0], l[1], l[3])
	if s.Kind(w) != api.KindRecord || s.Size(w) != 2 {
		t.Errorf("kind %d, size %d", s.Kind(w), s.Size(w))
	}
	for i := range 2 {
		if x, _ := s.Get(w, i); x != word.Of(0) {
			t.Errorf("field %d is %d", i, x)
		}
	}
	if x, _ := s.Get(l[0], 0); x != l[3] {
		t.Errorf("the root's field is %d", x)
	}
	s.Pick(nil) // the collector is idle: a cycle begins
	picks(s, 4)
	at(t, s, 1, 11)
}

// TestP4_3_InProgress: if the cycle in progress makes the space, there is no second one: the roots do not count.
func TestP4_3_InProgress(t *testing.T) {
	for wait := range 6 {
		s, l := laid(t, 9, 4)
		s.Pick(l[:2])
		picks(s, wait)
		lay(t, s, api.KindTag, 3, 5, l[0])
		at(t, s, 1, 0, l[0], l[1], l[2])
		if s.Size(l[2]) != 3 {
			t.Errorf("after %d picks: size %d", wait, s.Size(l[2]))
		}
	}
}

// TestP4_3_SecondCycle: if the cycle in progress does not make the space, a second one keeps only what the roots reach.
func TestP4_3_SecondCycle(t *testing.T) {
	for wait := range 8 {
		s, l := laid(t, 9, 4)
		s.Pick(l[1:])
		picks(s, wait)
		lay(t, s, api.KindTag, 3, 5, l[1])
		at(t, s, 2, 2, l[1], l[2])
	}
	s, l := laid(t, 9, 4)
	s.Pick(l)
	link(t, s, l[0], l[3])
	link(t, s, l[3], l[3])
	lay(t, s, api.KindString, 1, 3, l[0])
	at(t, s, 2, 2, l[0], l[1], l[3])
}

// TestP4_3_Full: when nothing helps, the completed cycles count, and what they freed is free.
func TestP4_3_Full(t *testing.T) {
	s, l := laid(t, 9, 4)
	refuse(t, s, api.KindRef, 1, api.ErrFull, l...)
	at(t, s, 1, 0, l...)
	refuse(t, s, api.KindRef, 2, api.ErrFull, l[0], l[2]) // 3 and 7 are free, but lie apart
	at(t, s, 2, 4, l[0], l[2])
	lay(t, s, api.KindRef, 1, 3)
	at(t, s, 2, 2, l[0], l[1], l[2])
	s.Pick(l[:2])
	refuse(t, s, api.KindArray, 8, api.ErrFull)
	at(t, s, 4, 8)
	refuse(t, s, api.KindArray, api.MaxObject, api.ErrFull)
	at(t, s, 5, 8)
	lay(t, s, api.KindArray, 7, 1)
	at(t, s, 5, 0, l[0])
	refuse(t, s, api.KindArray, 0, api.ErrFull, l[0])
	at(t, s, 6, 0, l[0])
	lay(t, s, api.KindArray, 0, 1)
	at(t, s, 7, 7, l[0])
	refuse(t, fresh(t, 2), api.KindRef, 1, api.ErrFull)
}

func TestP4_4_NoObject(t *testing.T) {
	s := fresh(t, 10)
	w := lay(t, s, api.KindRef, 1, 1)
	v := lay(t, s, api.KindArray, 5, 3)
	for i := range 5 {
		s.Set(v, i, w)
	}
	for _, x := range append(wrongWords(), word.Ref(4), word.Ref(8)) {
		if s.Kind(x) != 0 || s.Size(x) != 0 {
			t.Errorf("kind %d, size %d of %d", s.Kind(x), s.Size(x), x)
		}
		for _, i := range []int{0, 1, -1, math.MinInt, math.MaxInt} {
			if y, e := s.Get(x, i); y != 0 || e != api.ErrAddr {
				t.Errorf("Get(%d, %d) = %d, %d", x, i, y, e)
			}
			if e := s.Set(x, i, 77); e != api.ErrAddr {
				t.Errorf("Set(%d, %d) = %d", x, i, e)
			}
		}
	}
	at(t, s, 0, 1, w, v)
	for i := range 5 {
		if x, _ := s.Get(v, i); x != w {
			t.Errorf("field %d is %d", i, x)
		}
	}
}

func TestP4_4_Fields(t *testing.T) {
	s := fresh(t, 200)
	values := []api.Word{0, 1, 2, 3, math.MaxUint64, 1 << 63, 1<<33 + 2, 0x4241, 12}
	for kind := api.KindString; kind <= api.KindArray; kind++ {
		for size := range 5 {
			w, e := s.Alloc(kind, size, nil)
			if e != api.OK || s.Kind(w) != kind || s.Size(w) != size {
				t.Fatalf("%d: kind %d, size %d, want %d, %d", e, s.Kind(w), s.Size(w), kind, size)
			}
			for i := range size {
				x := values[(kind+size+i)%len(values)]
				if e := s.Set(w, i, x); e != api.OK {
					t.Errorf("Set(%d, %d) = %d", w, i, e)
				}
			}
			for _, i := range []int{-1, size, size + 1, 1 << 32, math.MinInt, math.MaxInt} {
				if x, e := s.Get(w, i); x != 0 || e != api.ErrRange {
					t.Errorf("Get(%d, %d) = %d, %d", w, i, x, e)
				}
				if e := s.Set(w, i, 5); e != api.ErrRange {
					t.Errorf("Set(%d, %d) = %d", w, i, e)
				}
			}
			for i := range size {
				if x, e := s.Get(w, i); x != values[(kind+size+i)%len(values)] || e != api.OK {
					t.Errorf("Get(%d, %d) = %d, %d", w, i, x, e)
				}
			}
		}
	}
	if s.Cycles() != 0 {
		t.Errorf("%d cycles", s.Cycles())
	}
}

// TestP4_4_Barrier: while a cycle marks, what a field loses is kept for this cycle, unless it is a text's field.
func TestP4_4_Barrier(t *testing.T) {
	for kind := api.KindString; kind <= api.KindArray; kind++ {
		s := fresh(t, 20)
		w := lay(t, s, kind, 2, 1)
		v := lay(t, s, api.KindRef, 1, 4)
		u := lay(t, s, api.KindRef, 1, 6)
		s.Set(w, 1, v)
		s.Set(v, 0, u)
		s.Pick([]api.Word{w})
		if e := s.Set(w, 1, word.Of(3)); e != api.OK {
			t.Fatal(e)
		}
		if x, _ := s.Get(w, 1); x != word.Of(3) {
			t.Errorf("the field is %d", x)
		}
		end(t, s)
		if kind == api.KindString {
			at(t, s, 1, 16, w)
		} else {
			at(t, s, 1, 12, w, v, u)
		}
		s.Pick([]api.Word{w})
		end(t, s)
		at(t, s, 2, 16, w)
	}
}
