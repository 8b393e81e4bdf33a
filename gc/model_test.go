package gc_test

import (
	"math"
	"math/rand"
	"slices"
	"sync"
	"testing"

	"marquetry/api"
	"marquetry/gc"
	"marquetry/heap"
)

// model is a collector by the chapter's words: colors has the objects that are "grey" or "black".
type model struct {
	h        *heap.Heap
	phase    int
	colors   map[int]string
	position int
}

func (m *model) white(addr int) bool {
	_, e := m.h.Kind(addr)
	return e == api.OK && m.colors[addr] == ""
}

func (m *model) grey() []int {
	var l []int
	for at, c := range m.colors {
		if c == "grey" {
			l = append(l, at)
		}
	}
	slices.Sort(l)
	return l
}

func (m *model) reach(w api.Word) {
	if w%2 == 0 && w < 1<<32 && m.white(int(w/2)) {
		m.colors[int(w/2)] = "grey"
	}
}

func (m *model) begin(roots []api.Word) api.Errno {
	if m.phase != idle {
		return api.ErrBusy
	}
	m.phase = mark
	for _, w := range roots {
		m.reach(w)
	}
	return api.OK
}

func (m *model) step() bool {
	switch m.phase {
	case mark:
		l := m.grey()
		if len(l) == 0 {
			m.phase, m.position = sweep, 0
			return false
		}
		m.colors[l[0]] = "black"
		if k, _ := m.h.Kind(l[0]); k != api.KindString {
			for i := 0; ; i++ {
				w, e := m.h.Get(l[0], i)
				if e != api.OK {
					break
				}
				m.reach(w)
			}
		}
	case sweep:
		at := m.h.Next(m.position)
		if at == 0 {
			m.phase = idle
			return true
		}
		if m.white(at) {
			m.h.Free(at)
		}
		delete(m.colors, at)
		m.position = at + 1
	}
	return false
}

func (m *model) alloc(kind, size int) (int, api.Errno) {
	at, e := m.h.Alloc(kind, size)
	if e == api.OK && (m.phase == mark || m.phase == sweep && at >= m.position) {
		m.colors[at] = "black"
	}
	return at, e
}

func (m *model) write(addr, i int, x api.Word) api.Errno {
	w, e := m.h.Get(addr, i)
	if k, _ := m.h.Kind(addr); e == api.OK && m.phase == mark && k != api.KindString {
		m.reach(w)
	}
	if e == api.OK {
		e = m.h.Set(addr, i, x)
	}
	return e
}

// pair is a collector with its heap, and its model.
type pair struct {
	h *heap.Heap
	g *gc.GC
	m *model
}

// act does one thing to both, and fails if they answer differently.
func (p pair) act(t *testing.T, r *rand.Rand) {
	t.Helper()
	addr := p.h.Next(r.Intn(p.h.Words()))
	if r.Intn(8) == 0 {
		addr = r.Intn(p.h.Words()+4) - 2
	}
	switch r.Intn(6) {
	case 0, 1:
		if got, want := p.g.Step(), p.m.step(); got != want {
			t.Fatalf("Step() = %t", got)
		}
	case 2:
		kind, size := r.Intn(8), r.Intn(7)-1
		got, e := p.g.Alloc(kind, size)
		if want, f := p.m.alloc(kind, size); got != want || e != f {
			t.Fatalf("Alloc(%d, %d) = %d, %d, want %d, %d", kind, size, got, e, want, f)
		}
	case 3, 4:
		i, w := r.Intn(6)-1, someWord(r, p.h)
		if e, f := p.g.Write(addr, i, w), p.m.write(addr, i, w); e != f {
			t.Fatalf("Write(%d, %d, %d) = %d, want %d", addr, i, w, e, f)
		}
	case 5:
		if r.Intn(5) == 0 {
			want := 0
			for p.m.phase != idle {
				p.m.step()
				want++
			}
			if got := p.g.Finish(); got != want {
				t.Fatalf("Finish() = %d, want %d", got, want)
			}
			return
		}
		roots := []api.Word{someWord(r, p.h), someWord(r, p.h), someWord(r, p.h)}[:r.Intn(4)]
		if e, f := p.g.Begin(roots), p.m.begin(roots); e != f {
			t.Fatalf("Begin(%d) = %d, want %d", roots, e, f)
		}
	}
}

// agree fails if anything that the collector or its heap tells differs from the model.
func (p pair) agree(t *testing.T) {
	t.Helper()
	if p.g.Phase() != p.m.phase || p.g.Grey() != len(p.m.grey()) {
		t.Fatalf("phase %d, %d grey, want %d, %d", p.g.Phase(), p.g.Grey(), p.m.phase, len(p.m.grey()))
	}
	if got, want := objects(p.h), objects(p.m.h); !slices.Equal(got, want) {
		t.Fatalf("objects at %v, want %v", got, want)
	}
	for addr := -1; addr <= p.h.Words(); addr++ {
		if p.g.White(addr) != p.m.white(addr) {
			t.Fatalf("White(%d) = %t", addr, p.g.White(addr))
		}
		size, _ := p.h.Size(addr)
		for i := range size {
			w, _ := p.h.Get(addr, i)
			if x, e := p.m.h.Get(addr, i); x != w || e != api.OK {
				t.Fatalf("field %d of %d is %d, want %d", i, addr, w, x)
			}
		}
	}
}

// TestP3_Model holds collectors of heaps of many sizes against models.
func TestP3_Model(t *testing.T) {
	r := rand.New(rand.NewSource(3))
	for words := 2; words <= 150; words++ {
		h := heap.New(words)
		tangle(r, h)
		p := pair{h, gc.New(h), &model{h: h.Copy(), colors: map[int]string{}}}
		for range 600 {
			p.act(t, r)
			p.agree(t)
		}
	}
}

// history is what one sequence of calls from a seed returned. Beside the collector's calls there are some of the heap's own, behind the collector's back.
func history(seed int64, steps int) []int {
	r := rand.New(rand.NewSource(seed))
	h := heap.New(2 + r.Intn(200))
	tangle(r, h)
	g := gc.New(h)
	ends := wrongAddresses()
	number := func(most int) int {
		if r.Intn(10) == 0 {
			return ends[r.Intn(len(ends))]
		}
		return r.Intn(most)
	}
	var l []int
	for range steps {
		addr := h.Next(number(h.Words()))
		switch r.Intn(8) {
		case 0:
			h.Free(addr)
		case 1:
			h.Alloc(1+r.Intn(6), r.Intn(4))
		case 2:
			l = append(l, int(g.Begin([]api.Word{someWord(r, h), api.Word(number(400))})))
		case 3:
			if r.Intn(10) == 0 {
				l = append(l, g.Finish())
			}
		}
		if g.Step() {
			l = append(l, -1)
		}
		at, e := g.Alloc(number(8), number(12))
		if e != api.OK && at != 0 {
			l = append(l, math.MinInt)
		}
		l = append(l, at, int(e), int(g.Write(addr, number(6), someWord(r, h))), g.Phase(), g.Grey())
		if g.White(number(h.Words())) {
			l = append(l, -2)
		}
	}
	return l
}

// TestP1_Rules: no call panics, an error leaves the other result zero, and neither earlier calls nor other collectors at the same time change a result.
func TestP1_Rules(t *testing.T) {
	var first [][]int
	for seed := range int64(60) {
		l := history(seed, 600)
		if slices.Contains(l, math.MinInt) {
			t.Fatalf("seed %d: beside an error stands an address", seed)
		}
		first = append(first, l)
	}
	var wait sync.WaitGroup
	for range 4 {
		wait.Go(func() {
			for seed, l := range first {
				if !slices.Equal(history(int64(seed), 600), l) {
					t.Errorf("seed %d: another history", seed)
				}
			}
		})
	}
	wait.Wait()
}

// TestP1_FreedBehindItsBack: an object that the heap was told to free is neither grey nor white, and what comes in its place is an object of its own.
func TestP1_FreedBehindItsBack(t *testing.T) {
	h, g := laid(t, 20, 4)
	link(t, h, 1, 5)
	begin(t, g, 1, 3, 7)
	h.Free(1)
	h.Free(7)
	at(t, h, g, mark, 1, 5)
	lay(t, g, api.KindRef, 1, 1)
	at(t, h, g, mark, 1, 5)
	step(t, g, 2)
	at(t, h, g, sweep, 0, 5)
	h.Free(3)
	finish(t, g, 3)
	left(t, h, 1)
	lay(t, g, api.KindRef, 1, 3)
	h.Alloc(api.KindRef, 1)
	h.Alloc(api.KindRef, 1)
	at(t, h, g, idle, 0, 1, 3, 5, 7)
}
