package heap_test

import (
	"math"
	"math/rand"
	"slices"
	"sync"
	"testing"

	"marquetry/api"
	"marquetry/heap"
)

// wrongAddresses are addresses that no heap has.
func wrongAddresses() []int {
	return []int{math.MinInt, math.MinInt + 1, -1 << 32, -65, -64, -63, -2, -1, 0, api.MaxWords, api.MaxWords + 1, 1 << 31, 1 << 32, math.MaxInt - 1, math.MaxInt}
}

// fresh returns a heap of so many words.
func fresh(t *testing.T, words int) *heap.Heap {
	t.Helper()
	h := heap.New(words)
	if h == nil {
		t.Fatalf("New(%d) = nil", words)
	}
	return h
}

// lay allocates, and fails if the address is another.
func lay(t *testing.T, h *heap.Heap, kind, size, want int) {
	t.Helper()
	if at, e := h.Alloc(kind, size); at != want || e != api.OK {
		t.Fatalf("Alloc(%d, %d) = %d, %d, want %d", kind, size, at, e, want)
	}
}

// refuse allocates, and fails if the error is another.
func refuse(t *testing.T, h *heap.Heap, kind, size int, want api.Errno) {
	t.Helper()
	if at, e := h.Alloc(kind, size); at != 0 || e != want {
		t.Fatalf("Alloc(%d, %d) = %d, %d, want error %d", kind, size, at, e, want)
	}
}

// release frees, and fails if the answer is another.
func release(t *testing.T, h *heap.Heap, addr int, want api.Errno) {
	t.Helper()
	if e := h.Free(addr); e != want {
		t.Fatalf("Free(%d) = %d, want %d", addr, e, want)
	}
}

// space fails if the free cells are others.
func space(t *testing.T, h *heap.Heap, room, longest int) {
	t.Helper()
	if h.Room() != room || h.Longest() != longest {
		t.Fatalf("Room %d, Longest %d, want %d, %d", h.Room(), h.Longest(), room, longest)
	}
}

func TestExamples(t *testing.T) {
	h := fresh(t, 10)
	lay(t, h, api.KindRef, 1, 1)
	lay(t, h, api.KindArray, 3, 3)
	space(t, h, 3, 3)
	release(t, h, 1, api.OK)
	lay(t, h, api.KindRef, 2, 7)
	lay(t, h, api.KindRef, 1, 1)
	space(t, h, 0, 0)
	if w, e := h.Get(3, 3); w != 0 || e != api.ErrRange {
		t.Errorf("Get(3, 3) = %d, %d", w, e)
	}
	if w, e := h.Get(4, 0); w != 0 || e != api.ErrAddr {
		t.Errorf("Get(4, 0) = %d, %d", w, e)
	}
	if e := h.Set(3, 0, 9); e != api.OK {
		t.Errorf("Set(3, 0, 9) = %d", e)
	}
	if w, e := h.Get(3, 0); w != 9 || e != api.OK {
		t.Errorf("Get(3, 0) = %d, %d", w, e)
	}
	if at := h.Next(2); at != 3 {
		t.Errorf("Next(2) = %d", at)
	}
	refuse(t, h, api.KindRef, 0, api.ErrFull)
}

func TestP2_1_New(t *testing.T) {
	for _, words := range []int{math.MinInt, -1 << 32, -2, -1, 0, 1, api.MaxWords + 1, 1 << 31, 1<<32 + 2, math.MaxInt} {
		if heap.New(words) != nil {
			t.Errorf("New(%d) is a heap", words)
		}
	}
	for _, words := range []int{2, 3, 63, 64, 65, 127, 128, 129, 1000, api.MaxWords - 1, api.MaxWords} {
		h := fresh(t, words)
		if h.Words() != words || h.Next(0) != 0 {
			t.Errorf("New(%d): %d words, the first object at %d", words, h.Words(), h.Next(0))
		}
		space(t, h, words-1, words-1)
	}
	h := fresh(t, 2)
	lay(t, h, api.KindArray, 0, 1)
	if h.Words() != 2 {
		t.Errorf("%d words with an object", h.Words())
	}
}

func TestP2_2_Kinds(t *testing.T) {
	for kind := api.KindString; kind <= api.KindArray; kind++ {
		h := fresh(t, 5)
		lay(t, h, kind, 3, 1)
		if k, e := h.Kind(1); k != kind || e != api.OK {
			t.Errorf("Kind(1) = %d, %d, want %d", k, e, kind)
		}
	}
	h := fresh(t, 5)
	for _, kind := range []int{math.MinInt, -1, api.KindFree, api.KindArray + 1, 8, 9, 1 << 32, 1<<32 + 1, math.MaxInt} {
		for _, size := range []int{0, 1, -1, 4, api.MaxObject + 1} {
			refuse(t, h, kind, size, api.ErrKind)
		}
	}
	space(t, h, 4, 4)
}

func TestP2_2_Sizes(t *testing.T) {
	h := fresh(t, api.MaxWords)
	for _, size := range []int{math.MinInt, -1 << 32, -2, -1, api.MaxObject + 1, 1 << 31, 1<<32 + 1, math.MaxInt - 1, math.MaxInt} {
		refuse(t, h, api.KindRef, size, api.ErrRange)
	}
	space(t, h, api.MaxWords-1, api.MaxWords-1)
	at := 1
	for _, size := range []int{0, 1, 63, 64, api.MaxObject - 1, api.MaxObject, 2} {
		lay(t, h, api.KindArray, size, at)
		if n, e := h.Size(at); n != size || e != api.OK {
			t.Errorf("Size(%d) = %d, %d, want %d", at, n, e, size)
		}
		at += size + 1
	}
	// A wrong size is told ahead of a lack of space.
	small := fresh(t, 2)
	refuse(t, small, api.KindRef, api.MaxObject+1, api.ErrRange)
	refuse(t, small, api.KindRef, api.MaxObject, api.ErrFull)
	refuse(t, small, api.KindRef, 1, api.ErrFull)
	lay(t, small, api.KindRef, 0, 1)
	refuse(t, small, api.KindRef, -1, api.ErrRange)
	refuse(t, small, api.KindRef, 0, api.ErrFull)
}

// TestP2_2_FirstFit: the run with the lowest address that is long enough, not the one that fits best, nor the one that was freed last.
func TestP2_2_FirstFit(t *testing.T) {
	h := fresh(t, 20)
	for i, size := range []int{0, 3, 0, 1, 0, 2, 0} {
		lay(t, h, api.KindTag, size, []int{1, 2, 6, 7, 9, 10, 13}[i])
	}
	release(t, h, 2, api.OK)  // 4 cells
	release(t, h, 10, api.OK) // 3 cells
	release(t, h, 7, api.OK)  // 2 cells; 6 more at 14
	space(t, h, 15, 6)
	refuse(t, h, api.KindTag, 6, api.ErrFull)
	lay(t, h, api.KindTag, 4, 14)
	lay(t, h, api.KindTag, 1, 2)
	lay(t, h, api.KindTag, 2, 10)
	lay(t, h, api.KindTag, 0, 4)
	lay(t, h, api.KindTag, 1, 7)
	space(t, h, 2, 1)
	refuse(t, h, api.KindTag, 1, api.ErrFull)
	lay(t, h, api.KindTag, 0, 5)
	lay(t, h, api.KindTag, 0, 19)
	space(t, h, 0, 0)
}

// TestP2_2_Joined: whatever the order in which neighbours are freed, their cells make one run.
func TestP2_2_Joined(t *testing.T) {
	for _, order := range [][]int{{1, 4, 6}, {1, 6, 4}, {4, 1, 6}, {4, 6, 1}, {6, 1, 4}, {6, 4, 1}} {
		h := fresh(t, 11)
		lay(t, h, api.KindRecord, 2, 1)
		lay(t, h, api.KindRecord, 1, 4)
		lay(t, h, api.KindRecord, 3, 6)
		lay(t, h, api.KindRecord, 0, 10)
		for _, at := range order {
			release(t, h, at, api.OK)
		}
		space(t, h, 9, 9)
		lay(t, h, api.KindRecord, 8, 1)
		release(t, h, 10, api.OK)
		space(t, h, 1, 1)
		release(t, h, 1, api.OK)
		space(t, h, 10, 10)
	}
}

func TestP2_2_FieldsAreZeroAnew(t *testing.T) {
	h := fresh(t, 9)
	for _, size := range []int{7, 3, 7, 5} {
		lay(t, h, api.KindClosure, size, 1)
		for i := range size {
			if w, e := h.Get(1, i); w != 1 || e != api.OK {
				t.Fatalf("field %d of %d is %d, %d", i, size, w, e)
			}
			h.Set(1, i, math.MaxUint64)
		}
		release(t, h, 1, api.OK)
	}
}

func TestP2_2_Free(t *testing.T) {
	h := fresh(t, 10)
	lay(t, h, api.KindRef, 2, 1)
	lay(t, h, api.KindRef, 1, 4)
	for _, at := range append(wrongAddresses(), 2, 3, 5, 6, 7, 9, 10, 11, 63, 64, 65) {
		release(t, h, at, api.ErrAddr)
	}
	space(t, h, 4, 4)
	release(t, h, 1, api.OK)
	release(t, h, 1, api.ErrAddr)
	release(t, h, 4, api.OK)
	release(t, h, 4, api.ErrAddr)
	// What was an object's address lies within another one now.
	lay(t, h, api.KindRef, 5, 1)
	release(t, h, 4, api.ErrAddr)
	space(t, h, 3, 3)
}

func TestP2_3_WrongAddresses(t *testing.T) {
	h := fresh(t, 12)
	lay(t, h, api.KindRef, 2, 1)
	lay(t, h, api.KindArray, 1, 4)
	lay(t, h, api.KindArray, 0, 6)
	release(t, h, 4, api.OK)
	// Fields that look like headers do not make objects.
	for w := range api.Word(64) {
		h.Set(1, 0, w)
		h.Set(1, 1, w<<3|5)
		for _, at := range append(wrongAddresses(), 2, 3, 4, 5, 7, 8, 11, 12, 13, 63, 64, 65) {
			if k, e := h.Kind(at); k != 0 || e != api.ErrAddr {
				t.Fatalf("Kind(%d) = %d, %d", at, k, e)
			}
			if n, e := h.Size(at); n != 0 || e != api.ErrAddr {
				t.Fatalf("Size(%d) = %d, %d", at, n, e)
			}
			for _, i := range []int{-1, 0, 1, math.MaxInt} {
				if x, e := h.Get(at, i); x != 0 || e != api.ErrAddr {
					t.Fatalf("Get(%d, %d) = %d, %d", at, i, x, e)
				}
				if e := h.Set(at, i, 9); e != api.ErrAddr {
					t.Fatalf("Set(%d, %d) = %d", at, i, e)
				}
			}
		}
	}
}

func TestP2_3_Fields(t *testing.T) {
	h := fresh(t, 12)
	lay(t, h, api.KindArray, 3, 1)
	lay(t, h, api.KindRef, 0, 5)
	lay(t, h, api.KindTag, 2, 6)
	for at, size := range map[int]int{1: 3, 5: 0, 6: 2} {
		for _, i := range []int{math.MinInt, -at - 1, -2, -1, size, size + 1, 11, 12, 1 << 32, math.MaxInt - at, math.MaxInt} {
			if w, e := h.Get(at, i); w != 0 || e != api.ErrRange {
				t.Errorf("Get(%d, %d) = %d, %d", at, i, w, e)
			}
			if e := h.Set(at, i, 8); e != api.ErrRange {
				t.Errorf("Set(%d, %d) = %d", at, i, e)
			}
		}
	}
	for _, w := range []api.Word{0, 1, 2, 3, 10, 1 << 32, 1 << 63, math.MaxUint64 - 1, math.MaxUint64} {
		if e := h.Set(6, 1, w); e != api.OK {
			t.Errorf("Set(6, 1, %d) = %d", w, e)
		}
		if x, e := h.Get(6, 1); x != w || e != api.OK {
			t.Errorf("Get(6, 1) = %d, %d, want %d", x, e, w)
		}
		if x, _ := h.Get(6, 0); x != 1 {
			t.Errorf("the field beside is %d", x)
		}
	}
	if k, _ := h.Kind(6); k != api.KindTag {
		t.Errorf("the kind is %d", k)
	}
}

func TestP2_4_Next(t *testing.T) {
	h := fresh(t, api.MaxWords)
	places := []int{1, 2, 63, 64, 65, 127, 128, 4000, 4096, 8192, 65535}
	at := 1
	for i, p := range places {
		for at < p { // what lies between is freed below
			size := min(p-at-1, api.MaxObject)
			lay(t, h, api.KindRef, size, at)
			at += size + 1
		}
		if i+1 == len(places) {
			lay(t, h, api.KindRef, 0, at)
			break
		}
		size := min(places[i+1]-at-1, i%3)
		lay(t, h, api.KindRef, size, at)
		at += size + 1
	}
	for a := h.Next(0); a != 0; a = h.Next(a + 1) {
		if !slices.Contains(places, a) {
			release(t, h, a, api.OK)
		}
	}
	want := 0
	for a := api.MaxWords + 200; a >= -200; a-- {
		if slices.Contains(places, a) {
			want = a
		}
		if got := h.Next(a); got != want {
			t.Fatalf("Next(%d) = %d, want %d", a, got, want)
		}
	}
	if h.Next(math.MinInt) != 1 || h.Next(math.MaxInt) != 0 || h.Next(1<<32) != 0 {
		t.Error("Next far away")
	}
	for _, p := range places {
		release(t, h, p, api.OK)
	}
	if h.Next(0) != 0 {
		t.Errorf("Next(0) = %d of an empty heap", h.Next(0))
	}
	space(t, h, api.MaxWords-1, api.MaxWords-1)
}

func TestP2_4_Space(t *testing.T) {
	h := fresh(t, 30)
	for i := range 9 {
		lay(t, h, api.KindRef, 2, 3*i+1)
	}
	space(t, h, 2, 2)
	release(t, h, 4, api.OK)
	space(t, h, 5, 3)
	release(t, h, 16, api.OK)
	space(t, h, 8, 3)
	release(t, h, 13, api.OK)
	space(t, h, 11, 6)
	release(t, h, 25, api.OK)
	space(t, h, 14, 6)
	release(t, h, 22, api.OK)
	space(t, h, 17, 8)
}

func TestP2_4_Copy(t *testing.T) {
	h := fresh(t, 12)
	lay(t, h, api.KindRef, 2, 1)
	lay(t, h, api.KindArray, 1, 4)
	lay(t, h, api.KindTag, 1, 6)
	release(t, h, 4, api.OK)
	h.Set(1, 1, 77)
	a, b := h.Copy(), h.Copy()
	// The first copy and the heap are changed, each in its way; the second copy stays.
	release(t, a, 1, api.OK)
	release(t, a, 6, api.OK)
	h.Set(1, 1, 78)
	lay(t, h, api.KindRef, 1, 4)
	lay(t, h, api.KindRef, 3, 8)
	space(t, a, 11, 11)
	space(t, h, 0, 0)
	space(t, b, 6, 4)
	if w, e := b.Get(1, 1); w != 77 || e != api.OK {
		t.Errorf("the copy's field is %d, %d", w, e)
	}
	if b.Words() != 12 || b.Next(2) != 6 || b.Next(7) != 0 || h.Next(2) != 4 || a.Next(0) != 0 {
		t.Error("the copies' objects")
	}
	lay(t, b, api.KindRef, 2, 8)
	lay(t, b, api.KindRef, 0, 4)
	if w, _ := h.Get(1, 1); w != 78 {
		t.Errorf("the heap's field is %d", w)
	}
}

// TestP2_5_Partition: whatever was allocated and freed, objects and free cells are all cells but one.
func TestP2_5_Partition(t *testing.T) {
	r := rand.New(rand.NewSource(5))
	for _, words := range []int{2, 3, 64, 65, 1000, api.MaxWords} {
		h := fresh(t, words)
		var held []int
		for range 3000 {
			if len(held) > 0 && r.Intn(5) < 2 {
				i := r.Intn(len(held))
				release(t, h, held[i], api.OK)
				held = slices.Delete(held, i, i+1)
			} else if at, e := h.Alloc(1+r.Intn(6), r.Intn(1+r.Intn(words))%(api.MaxObject+1)); e == api.OK {
				held = append(held, at)
			}
			if r.Intn(20) == 0 {
				checkPartition(t, h, len(held))
			}
		}
		checkPartition(t, h, len(held))
	}
}

func checkPartition(t *testing.T, h *heap.Heap, objects int) {
	t.Helper()
	cells, behind := h.Room(), 1
	for at := h.Next(0); at != 0; at = h.Next(at + 1) {
		n, e := h.Size(at)
		if e != api.OK || at < behind || at+n >= h.Words() {
			t.Fatalf("the object at %d of size %d, %d: the one before it ends at %d, the heap at %d", at, n, e, behind, h.Words())
		}
		behind = at + n + 1
		cells += n + 1
		objects--
	}
	if cells != h.Words()-1 || objects != 0 {
		t.Fatalf("%d cells of %d, %d objects too few", cells, h.Words(), objects)
	}
}

// TestP2_5_FieldsKeep: a field has what it was set to, whatever is done to others in between.
func TestP2_5_FieldsKeep(t *testing.T) {
	r := rand.New(rand.NewSource(6))
	h := fresh(t, 300)
	type place struct{ at, i int }
	set := map[place]api.Word{}
	for range 20000 {
		at := h.Next(r.Intn(300))
		size, e := h.Size(at)
		switch {
		case r.Intn(3) == 0:
			h.Alloc(1+r.Intn(6), r.Intn(30))
		case e == api.OK && r.Intn(2) == 0:
			release(t, h, at, api.OK)
			for i := range size {
				delete(set, place{at, i})
			}
		case size > 0:
			p := place{at, r.Intn(size)}
			set[p] = api.Word(r.Uint64())
			h.Set(p.at, p.i, set[p])
		}
		if r.Intn(50) == 0 {
			for p, w := range set {
				if x, e := h.Get(p.at, p.i); x != w || e != api.OK {
					t.Fatalf("field %d of %d is %d, %d, and was set to %d", p.i, p.at, x, e, w)
				}
			}
		}
	}
}

// history is what one sequence of calls from a seed returned; its calls have arguments of all sorts.
func history(seed int64, steps int) []int {
	r := rand.New(rand.NewSource(seed))
	h := heap.New(2 + r.Intn(200))
	ends := wrongAddresses()
	number := func(most int) int {
		if r.Intn(10) == 0 {
			return ends[r.Intn(len(ends))]
		}
		return r.Intn(most)
	}
	var l []int
	note := func(n int, e api.Errno) {
		l = append(l, n, int(e))
	}
	for range steps {
		at, i := number(h.Words()), number(6)
		note(h.Alloc(number(8), number(12)))
		note(0, h.Free(number(h.Words())))
		note(h.Kind(at))
		note(h.Size(at))
		w, e := h.Get(h.Next(at), i)
		note(int(w), e)
		note(0, h.Set(h.Next(at), i, api.Word(r.Uint64())))
		note(h.Next(at), api.OK)
		note(h.Room(), api.OK)
		note(h.Longest(), api.OK)
		if r.Intn(50) == 0 {
			h = h.Copy()
		}
	}
	return l
}

// TestP1_Rules: no call panics, an error leaves the other result zero, and neither earlier calls nor other heaps at the same time change a result.
func TestP1_Rules(t *testing.T) {
	var first [][]int
	for seed := range int64(40) {
		l := history(seed, 500)
		for i := 0; i < len(l); i += 2 {
			if l[i+1] != int(api.OK) && l[i] != 0 {
				t.Fatalf("seed %d: beside error %d stands %d", seed, l[i+1], l[i])
			}
		}
		first = append(first, l)
	}
	var wait sync.WaitGroup
	for range 4 {
		wait.Go(func() {
			for seed, l := range first {
				if !slices.Equal(history(int64(seed), 500), l) {
					t.Errorf("seed %d: another history", seed)
				}
			}
		})
	}
	wait.Wait()
}
