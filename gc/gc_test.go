package gc_test

import (
	"math"
	"math/rand"
	"slices"
	"testing"

	"marquetry/api"
	"marquetry/gc"
	"marquetry/heap"
	"marquetry/word"
)

// The phases.
const (
	idle  = 0
	mark  = 1
	sweep = 2
)

// wrongAddresses are addresses that no heap has.
func wrongAddresses() []int {
	return []int{math.MinInt, math.MinInt + 1, -1 << 32, -1, 0, api.MaxWords, api.MaxWords + 1, 1 << 31, 1<<32 + 1, math.MaxInt}
}

// laid returns a heap with references of one field one behind another, the first at 1, the next at 3; and a collector.
func laid(t *testing.T, words, refs int) (*heap.Heap, *gc.GC) {
	t.Helper()
	h := heap.New(words)
	for i := range refs {
		if at, e := h.Alloc(api.KindRef, 1); at != 2*i+1 || e != api.OK {
			t.Fatalf("the heap's Alloc = %d, %d", at, e)
		}
	}
	return h, gc.New(h)
}

// link sets the fields of an object, from field 0 on, ahead of a cycle.
func link(t *testing.T, h *heap.Heap, addr int, to ...int) {
	t.Helper()
	for i, at := range to {
		if e := h.Set(addr, i, word.Ref(at)); e != api.OK {
			t.Fatalf("the heap's Set(%d, %d) = %d", addr, i, e)
		}
	}
}

// begin begins a cycle with the words of some addresses.
func begin(t *testing.T, g *gc.GC, roots ...int) {
	t.Helper()
	var words []api.Word
	for _, at := range roots {
		words = append(words, word.Ref(at))
	}
	if e := g.Begin(words); e != api.OK || g.Phase() != mark {
		t.Fatalf("Begin = %d, phase %d", e, g.Phase())
	}
}

// step does so many steps, of which none ends the cycle.
func step(t *testing.T, g *gc.GC, steps int) {
	t.Helper()
	for i := range steps {
		if g.Step() {
			t.Fatalf("step %d ends the cycle", i)
		}
	}
}

// at fails if the phase, the number of grey objects or the white ones are others.
func at(t *testing.T, h *heap.Heap, g *gc.GC, phase, grey int, white ...int) {
	t.Helper()
	if g.Phase() != phase || g.Grey() != grey {
		t.Fatalf("phase %d, %d grey, want %d, %d", g.Phase(), g.Grey(), phase, grey)
	}
	for addr := -2; addr < h.Words()+70; addr++ {
		if g.White(addr) != slices.Contains(white, addr) {
			t.Fatalf("White(%d) = %t, want %v", addr, g.White(addr), white)
		}
	}
}

// objects returns the addresses of all objects.
func objects(h *heap.Heap) []int {
	var l []int
	for at := h.Next(0); at != 0; at = h.Next(at + 1) {
		l = append(l, at)
	}
	return l
}

// left fails if the objects of a heap are others.
func left(t *testing.T, h *heap.Heap, want ...int) {
	t.Helper()
	if got := objects(h); !slices.Equal(got, want) {
		t.Fatalf("objects at %v, want %v", got, want)
	}
}

// lay allocates by the collector, and fails if the address is another.
func lay(t *testing.T, g *gc.GC, kind, size, want int) {
	t.Helper()
	if at, e := g.Alloc(kind, size); at != want || e != api.OK {
		t.Fatalf("Alloc(%d, %d) = %d, %d, want %d", kind, size, at, e, want)
	}
}

// finish ends the cycle, and fails if that takes another number of steps.
func finish(t *testing.T, g *gc.GC, want int) {
	t.Helper()
	if n := g.Finish(); n != want || g.Phase() != idle || g.Grey() != 0 {
		t.Fatalf("Finish = %d, want %d; phase %d, %d grey", n, want, g.Phase(), g.Grey())
	}
}

func TestExamples(t *testing.T) {
	h, g := laid(t, 20, 3)
	link(t, h, 1, 3)
	begin(t, g, 1)
	at(t, h, g, mark, 1, 3, 5)
	if g.Step() || g.White(3) {
		t.Error("the first step")
	}
	if e := g.Write(1, 0, 1); e != api.OK {
		t.Errorf("Write = %d", e)
	}
	step(t, g, 2)
	at(t, h, g, sweep, 0, 5)
	finish(t, g, 4)
	if h.Next(4) != 0 {
		t.Error("5 is there")
	}
	begin(t, g)
	if e := g.Write(1, 0, word.Ref(3)); e != api.OK || !g.White(3) {
		t.Error("a value that is written is not grey for that")
	}
}

func TestP3_1_New(t *testing.T) {
	for _, words := range []int{2, 3, 64, 65, api.MaxWords} {
		h := heap.New(words)
		h.Alloc(api.KindArray, 0)
		g := gc.New(h)
		if g.Phase() != idle || g.Grey() != 0 || !g.White(1) || g.White(2) {
			t.Errorf("%d words: phase %d, %d grey", words, g.Phase(), g.Grey())
		}
		for _, addr := range wrongAddresses() {
			if g.White(addr) {
				t.Errorf("%d words: White(%d)", words, addr)
			}
		}
		left(t, h, 1)
	}
}

func TestP3_1_WhiteAndGrey(t *testing.T) {
	h, g := laid(t, 12, 5)
	at(t, h, g, idle, 0, 1, 3, 5, 7, 9)
	link(t, h, 5, 9)
	begin(t, g, 5, 7)
	at(t, h, g, mark, 2, 1, 3, 9)
	step(t, g, 1) // 5 is black
	at(t, h, g, mark, 2, 1, 3)
	step(t, g, 2)
	at(t, h, g, mark, 0, 1, 3)
	step(t, g, 1)
	at(t, h, g, sweep, 0, 1, 3)
	step(t, g, 3) // 1 and 3 are free, 5 is white again
	at(t, h, g, sweep, 0, 5)
	finish(t, g, 3)
	at(t, h, g, idle, 0, 5, 7, 9)
	if a, e := h.Alloc(api.KindRef, 1); a != 1 || e != api.OK {
		t.Fatal(a, e)
	}
	at(t, h, g, idle, 0, 1, 5, 7, 9)
}

func TestP3_2_Begin(t *testing.T) {
	h, g := laid(t, 40, 4)
	link(t, h, 3, 5)
	roots := []api.Word{
		word.Ref(3), word.Ref(7), word.Ref(3),
		word.Of(1), word.Ref(1) + 1, // numbers, the second one between two addresses' words
		word.Ref(0), word.Ref(2), word.Ref(9), word.Ref(39), word.Ref(40), word.Ref(41), word.Ref(api.MaxWords),
		word.Ref(1<<31 - 1), 1 << 32, 1<<33 + 2, math.MaxUint64, math.MaxUint64 - 1, 1 << 63, 1<<63 + 2,
	}
	before := slices.Clone(roots)
	if e := g.Begin(roots); e != api.OK {
		t.Fatalf("Begin = %d", e)
	}
	if !slices.Equal(roots, before) {
		t.Error("the roots were changed")
	}
	clear(roots)
	at(t, h, g, mark, 2, 1, 5)
	left(t, h, 1, 3, 5, 7)
	finish(t, g, 3+1+4+1)
	left(t, h, 3, 5, 7)
}

func TestP3_2_Busy(t *testing.T) {
	h, g := laid(t, 20, 3)
	begin(t, g, 1)
	for g.Phase() != idle {
		phase, grey, all := g.Phase(), g.Grey(), objects(h)
		var white []int
		for _, a := range all {
			if g.White(a) {
				white = append(white, a)
			}
		}
		for _, roots := range [][]api.Word{nil, {word.Ref(3)}, {word.Ref(1), word.Ref(5)}} {
			if e := g.Begin(roots); e != api.ErrBusy {
				t.Errorf("Begin = %d in phase %d", e, phase)
			}
			at(t, h, g, phase, grey, white...)
			left(t, h, all...)
		}
		g.Step()
	}
	left(t, h, 1)
	begin(t, g)
	g.Finish()
	left(t, h)
}

func TestP3_2_NoRoots(t *testing.T) {
	h, g := laid(t, 20, 3)
	begin(t, g)
	at(t, h, g, mark, 0, 1, 3, 5)
	step(t, g, 1)
	at(t, h, g, sweep, 0, 1, 3, 5)
	finish(t, g, 4)
	left(t, h)
	if e := g.Begin([]api.Word{}); e != api.OK || g.Phase() != mark {
		t.Errorf("Begin = %d, phase %d", e, g.Phase())
	}
	finish(t, g, 2)
}

func TestP3_3_Idle(t *testing.T) {
	h, g := laid(t, 20, 3)
	for range 3 {
		if g.Step() {
			t.Error("a step of an idle collector ends something")
		}
		finish(t, g, 0)
		at(t, h, g, idle, 0, 1, 3, 5)
	}
}

// TestP3_3_LowestFirst: among the grey objects the lowest is next, also if it has become grey last.
func TestP3_3_LowestFirst(t *testing.T) {
	h, g := laid(t, 40, 8)
	link(t, h, 9, 1)
	link(t, h, 1, 13)
	link(t, h, 11, 15)
	link(t, h, 13, 5)
	link(t, h, 5, 5) // itself
	begin(t, g, 11, 9)
	at(t, h, g, mark, 2, 1, 3, 5, 7, 13, 15)
	step(t, g, 1) // 9
	at(t, h, g, mark, 2, 3, 5, 7, 13, 15)
	step(t, g, 1) // 1
	at(t, h, g, mark, 2, 3, 5, 7, 15)
	step(t, g, 1) // 11
	at(t, h, g, mark, 2, 3, 5, 7)
	step(t, g, 1) // 13
	at(t, h, g, mark, 2, 3, 7)
	step(t, g, 1) // 5
	at(t, h, g, mark, 1, 3, 7)
	step(t, g, 1) // 15
	at(t, h, g, mark, 0, 3, 7)
	step(t, g, 1)
	at(t, h, g, sweep, 0, 3, 7)
	finish(t, g, 9)
	left(t, h, 1, 5, 9, 11, 13, 15)
}

func TestP3_3_Fields(t *testing.T) {
	for kind := api.KindString; kind <= api.KindArray; kind++ {
		h := heap.New(5000)
		h.Alloc(api.KindRef, 1)
		h.Alloc(kind, api.MaxObject) // at 3
		for range 3 {
			h.Alloc(api.KindRef, 1) // 4100, 4102, 4104
		}
		h.Set(3, 0, word.Ref(4102))
		h.Set(3, 1, word.Of(1))
		h.Set(3, 2, 1<<33+2)
		h.Set(3, api.MaxObject-1, word.Ref(4104))
		g := gc.New(h)
		begin(t, g, 3)
		step(t, g, 1)
		if kind == api.KindString {
			at(t, h, g, mark, 0, 1, 4100, 4102, 4104)
			finish(t, g, 1+5+1)
			left(t, h, 3)
		} else {
			at(t, h, g, mark, 2, 1, 4100)
			finish(t, g, 2+1+5+1)
			left(t, h, 3, 4102, 4104)
		}
	}
}

func TestP3_3_Sweep(t *testing.T) {
	h, g := laid(t, 12, 5)
	begin(t, g, 3, 9)
	step(t, g, 3)
	for _, want := range []struct{ objects, white []int }{
		{[]int{3, 5, 7, 9}, []int{5, 7}},
		{[]int{3, 5, 7, 9}, []int{3, 5, 7}},
		{[]int{3, 7, 9}, []int{3, 7}},
		{[]int{3, 9}, []int{3}},
		{[]int{3, 9}, []int{3, 9}},
	} {
		step(t, g, 1)
		left(t, h, want.objects...)
		at(t, h, g, sweep, 0, want.white...)
	}
	if !g.Step() {
		t.Error("the last step does not tell")
	}
	at(t, h, g, idle, 0, 3, 9)
	if g.Step() {
		t.Error("a step behind the last one ends something")
	}
}

// TestP3_3_LastCell: an object in the last cell is swept, and the cycle ends behind it.
func TestP3_3_LastCell(t *testing.T) {
	for _, words := range []int{2, 64, 65, 128} {
		h := heap.New(words)
		if words > 2 {
			h.Alloc(api.KindArray, words-3)
		}
		h.Alloc(api.KindArray, 0)
		g := gc.New(h)
		begin(t, g, words-1)
		g.Finish()
		left(t, h, words-1)
		begin(t, g)
		g.Finish()
		left(t, h)
	}
}

// TestP3_3_FinishMidway: Finish counts the steps that are left.
func TestP3_3_FinishMidway(t *testing.T) {
	const all = 3 + 1 + 4 + 1
	for done := range all {
		h, g := laid(t, 20, 4)
		link(t, h, 1, 5)
		link(t, h, 5, 7)
		begin(t, g, 1)
		step(t, g, done)
		finish(t, g, all-done)
		left(t, h, 1, 5, 7)
	}
}

func TestP3_4_AllocErrors(t *testing.T) {
	h, g := laid(t, 8, 2)
	begin(t, g, 1)
	for g.Phase() != idle {
		all, phase, grey := objects(h), g.Phase(), g.Grey()
		for _, c := range []struct {
			kind, size int
			want       api.Errno
		}{
			{0, 0, api.ErrKind}, {7, -1, api.ErrKind}, {-1, 0, api.ErrKind}, {math.MaxInt, 1, api.ErrKind},
			{1, -1, api.ErrRange}, {6, api.MaxObject + 1, api.ErrRange}, {6, math.MinInt, api.ErrRange}, {2, math.MaxInt, api.ErrRange},
			{3, 7, api.ErrFull}, {3, api.MaxObject, api.ErrFull},
		} {
			if addr, e := g.Alloc(c.kind, c.size); addr != 0 || e != c.want {
				t.Errorf("Alloc(%d, %d) = %d, %d, want %d", c.kind, c.size, addr, e, c.want)
			}
		}
		left(t, h, all...)
		if g.Phase() != phase || g.Grey() != grey {
			t.Error("an error has changed something")
		}
		g.Step()
	}
	left(t, h, 1)
}

func TestP3_4_AllocIdle(t *testing.T) {
	h, g := laid(t, 20, 1)
	lay(t, g, api.KindRecord, 2, 3)
	lay(t, g, api.KindString, 0, 6)
	at(t, h, g, idle, 0, 1, 3, 6)
	if k, _ := h.Kind(3); k != api.KindRecord {
		t.Errorf("kind %d", k)
	}
	if n, _ := h.Size(3); n != 2 {
		t.Errorf("size %d", n)
	}
	if w, e := h.Get(3, 1); w != word.Of(0) || e != api.OK {
		t.Errorf("a field is %d, %d", w, e)
	}
	begin(t, g)
	g.Finish()
	left(t, h)
}

// TestP3_4_AllocMark: what is allocated while marking stays, but does not keep what is written into it.
func TestP3_4_AllocMark(t *testing.T) {
	h, g := laid(t, 20, 3)
	begin(t, g, 1)
	lay(t, g, api.KindRef, 1, 7)
	at(t, h, g, mark, 1, 3, 5)
	if e := g.Write(7, 0, word.Ref(3)); e != api.OK {
		t.Fatal(e)
	}
	at(t, h, g, mark, 1, 3, 5)
	step(t, g, 1)
	lay(t, g, api.KindString, 1, 9) // no grey object is left, but the phase is still mark
	at(t, h, g, mark, 0, 3, 5)
	finish(t, g, 1+5+1)
	left(t, h, 1, 7, 9)
	at(t, h, g, idle, 0, 1, 7, 9)
}

func TestP3_4_AllocSweep(t *testing.T) {
	h, g := laid(t, 16, 5)
	begin(t, g, 3)
	step(t, g, 2)
	at(t, h, g, sweep, 0, 1, 5, 7, 9)
	lay(t, g, api.KindRef, 0, 11) // the position is 0
	at(t, h, g, sweep, 0, 1, 5, 7, 9)
	step(t, g, 1)                 // 1 is free, the position 2
	lay(t, g, api.KindRef, 0, 1)  // below it
	lay(t, g, api.KindRef, 0, 2)  // at it
	lay(t, g, api.KindRef, 0, 12) // above it
	at(t, h, g, sweep, 0, 1, 5, 7, 9)
	step(t, g, 3) // 2 and 3 are white, 5 is free
	at(t, h, g, sweep, 0, 1, 2, 3, 7, 9)
	lay(t, g, api.KindRef, 0, 5)
	lay(t, g, api.KindRef, 0, 6)
	at(t, h, g, sweep, 0, 1, 2, 3, 5, 7, 9)
	finish(t, g, 6) // 6, 7, 9, 11, 12; the end
	left(t, h, 1, 2, 3, 5, 6, 11, 12)
	at(t, h, g, idle, 0, 1, 2, 3, 5, 6, 11, 12)
}

func TestP3_4_WriteErrors(t *testing.T) {
	h, g := laid(t, 20, 3)
	link(t, h, 1, 3)
	for _, phase := range []int{idle, mark, sweep} {
		if phase == mark {
			begin(t, g)
		}
		for g.Phase() != phase {
			g.Step()
		}
		for _, addr := range append(wrongAddresses(), 2, 4, 7, 19) {
			for _, i := range []int{0, -1, 1, math.MinInt, math.MaxInt} {
				if e := g.Write(addr, i, 5); e != api.ErrAddr {
					t.Errorf("Write(%d, %d) = %d", addr, i, e)
				}
			}
		}
		for _, i := range []int{-1, 1, 2, 1 << 32, math.MinInt, math.MaxInt} {
			if e := g.Write(1, i, 5); e != api.ErrRange {
				t.Errorf("Write(1, %d) = %d", i, e)
			}
		}
		at(t, h, g, phase, 0, 1, 3, 5)
	}
	if w, _ := h.Get(1, 0); w != word.Ref(3) {
		t.Errorf("the field is %d", w)
	}
}

// TestP3_4_Barrier: in the phase mark alone, what a field reached becomes grey, whatever the color of what is written.
func TestP3_4_Barrier(t *testing.T) {
	h, g := laid(t, 20, 5)
	link(t, h, 1, 3)
	link(t, h, 5, 7)
	write := func(addr int, w api.Word) {
		t.Helper()
		if e := g.Write(addr, 0, w); e != api.OK {
			t.Fatalf("Write(%d, 0) = %d", addr, e)
		}
		if x, e := h.Get(addr, 0); x != w || e != api.OK {
			t.Fatalf("the field is %d, %d, want %d", x, e, w)
		}
	}
	write(1, word.Of(8))
	write(1, word.Ref(3))
	at(t, h, g, idle, 0, 1, 3, 5, 7, 9)
	begin(t, g, 1)
	write(1, word.Ref(3)) // the same word again; 1 is grey
	at(t, h, g, mark, 2, 5, 7, 9)
	write(5, word.Ref(9)) // 5 is white
	at(t, h, g, mark, 3, 5, 9)
	step(t, g, 1)
	write(1, word.Ref(5)) // 1 is black, and reached what is grey
	at(t, h, g, mark, 2, 5, 9)
	write(1, word.Of(5)) // 1 is black, and reached what is white
	at(t, h, g, mark, 3, 9)
	write(1, 1<<33+18)
	write(1, word.Ref(1))
	write(1, word.Ref(2))
	write(1, word.Ref(9)+1)
	write(1, word.Ref(9))
	at(t, h, g, mark, 3, 9)
	step(t, g, 3) // 3, 5, which leads to 9, and 7
	at(t, h, g, mark, 1)
	step(t, g, 2)
	finish(t, g, 6)
	begin(t, g)
	step(t, g, 1)
	at(t, h, g, sweep, 0, 1, 3, 5, 7, 9)
	write(1, word.Of(0)) // too late
	at(t, h, g, sweep, 0, 1, 3, 5, 7, 9)
	g.Finish()
	left(t, h)
}

func TestP3_4_BarrierKinds(t *testing.T) {
	for kind := api.KindString; kind <= api.KindArray; kind++ {
		h := heap.New(20)
		h.Alloc(kind, 3)
		h.Alloc(api.KindRef, 1) // at 5
		h.Alloc(api.KindString, 1)
		link(t, h, 1, 1, 5, 7)
		g := gc.New(h)
		begin(t, g)
		for i := range 3 {
			if e := g.Write(1, i, word.Of(4)); e != api.OK {
				t.Fatal(e)
			}
			if w, _ := h.Get(1, i); w != word.Of(4) {
				t.Errorf("field %d is %d", i, w)
			}
		}
		if kind == api.KindString {
			at(t, h, g, mark, 0, 1, 5, 7)
		} else {
			at(t, h, g, mark, 3)
		}
	}
}

// reached returns what some words reach, by the chapter's words.
func reached(h *heap.Heap, roots []api.Word) map[int]int {
	seen := map[int]int{}
	for len(roots) > 0 {
		w := roots[0]
		roots = roots[1:]
		addr := int(w / 2)
		kind, e := h.Kind(addr)
		if w%2 == 1 || w > 1<<32 || e != api.OK || seen[addr] != 0 {
			continue
		}
		seen[addr] = kind
		size, _ := h.Size(addr)
		for i := range size {
			if w, _ := h.Get(addr, i); kind != api.KindString {
				roots = append(roots, w)
			}
		}
	}
	return seen
}

// tangle fills a heap with objects of all kinds whose fields are numbers, addresses and anything, and returns some roots.
func tangle(r *rand.Rand, h *heap.Heap) []api.Word {
	for range r.Intn(30) {
		h.Alloc(1+r.Intn(6), r.Intn(4))
	}
	for _, addr := range objects(h) {
		size, _ := h.Size(addr)
		for i := range size {
			h.Set(addr, i, someWord(r, h))
		}
		if r.Intn(4) == 0 {
			h.Free(addr)
		}
	}
	var roots []api.Word
	for range r.Intn(4) {
		roots = append(roots, someWord(r, h))
	}
	return roots
}

// someWord returns mostly an object's word.
func someWord(r *rand.Rand, h *heap.Heap) api.Word {
	switch r.Intn(6) {
	case 0:
		return word.Of(r.Int63())
	case 1:
		return api.Word(r.Uint64() >> r.Intn(64))
	}
	return word.Ref(h.Next(r.Intn(h.Words())))
}

// cycle is a cycle in progress, and what has to be there when it ends.
type cycle struct {
	h    *heap.Heap
	g    *gc.GC
	keep []int // what was reached when the cycle began, or allocated since
}

// write writes into an object a number or one of the words that it may have.
func (c *cycle) write(t *testing.T, r *rand.Rand, addr int, w api.Word) {
	t.Helper()
	size, e := c.h.Size(addr)
	if e != api.OK {
		t.Fatalf("%d is not there: %d", addr, e)
	}
	if size > 0 {
		if e := c.g.Write(addr, r.Intn(size), w); e != api.OK {
			t.Fatal(e)
		}
	}
}

// run does steps until the cycle ends, and has the writer act in between.
func (c *cycle) run(t *testing.T, r *rand.Rand, act func()) {
	t.Helper()
	steps := 0
	for done := false; !done; {
		for range r.Intn(4) {
			if at, e := c.g.Alloc(1+r.Intn(6), r.Intn(4)); e == api.OK {
				c.keep = append(c.keep, at)
			}
			act()
		}
		done = c.g.Step()
		if steps++; steps > 2*c.h.Words()+2 {
			t.Fatalf("%d steps with %d cells", steps, c.h.Words())
		}
	}
	for _, at := range c.keep {
		if _, e := c.h.Kind(at); e != api.OK {
			t.Fatalf("%d was freed", at)
		}
	}
}

// start fills a heap of so many cells, and begins a cycle.
func start(t *testing.T, r *rand.Rand, words int) *cycle {
	t.Helper()
	h := heap.New(words)
	roots := tangle(r, h)
	c := &cycle{h: h, g: gc.New(h)}
	for at := range reached(h, roots) {
		c.keep = append(c.keep, at)
	}
	slices.Sort(c.keep)
	if e := c.g.Begin(roots); e != api.OK {
		t.Fatal(e)
	}
	return c
}

// TestP3_5_Exactly: with a writer that uses what it may, what is left is what was reached or allocated, and nothing else.
func TestP3_5_Exactly(t *testing.T) {
	r := rand.New(rand.NewSource(35))
	for range 3000 {
		c := start(t, r, 2+r.Intn(120))
		c.run(t, r, func() {
			if len(c.keep) == 0 {
				return
			}
			w := word.Of(r.Int63())
			if r.Intn(4) > 0 {
				w = word.Ref(c.keep[r.Intn(len(c.keep))])
			}
			c.write(t, r, c.keep[r.Intn(len(c.keep))], w)
		})
		slices.Sort(c.keep)
		left(t, c.h, c.keep...)
	}
}

// TestP3_5_AnyWriter: even with a writer that uses what it may not, what was reached or allocated is left.
func TestP3_5_AnyWriter(t *testing.T) {
	r := rand.New(rand.NewSource(36))
	for range 3000 {
		c := start(t, r, 2+r.Intn(120))
		c.run(t, r, func() {
			if at := c.h.Next(r.Intn(c.h.Words())); at != 0 {
				c.write(t, r, at, someWord(r, c.h))
			}
		})
	}
}

// TestP3_5_Steps: without a writer a cycle takes a step for each object that is reached, one for each that is there, and two.
func TestP3_5_Steps(t *testing.T) {
	r := rand.New(rand.NewSource(37))
	for range 1000 {
		c := start(t, r, 2+r.Intn(120))
		finish(t, c.g, len(c.keep)+len(objects(c.h))+2)
		left(t, c.h, c.keep...)
	}
}

// TestP3_5_Largest: in a full heap of the greatest size, a chain that goes up and down through the whole heap is kept whole.
func TestP3_5_Largest(t *testing.T) {
	const refs = (api.MaxWords - 1) / 2
	h, g := laid(t, api.MaxWords, refs)
	low, high := 0, refs-1
	for low < high {
		link(t, h, 2*low+1, 2*high+1)
		low++
		if low < high {
			link(t, h, 2*high+1, 2*low+1)
		}
		high--
	}
	begin(t, g, 1)
	finish(t, g, 2*refs+2)
	if len(objects(h)) != refs {
		t.Errorf("%d objects are left of %d", len(objects(h)), refs)
	}
	begin(t, g)
	finish(t, g, refs+2)
	left(t, h)
}
