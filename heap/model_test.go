package heap_test

import (
	"math/rand"
	"testing"

	"marquetry/api"
	"marquetry/heap"
)

// object is what a model keeps of an object.
type object struct {
	kind   int
	fields []api.Word
}

// model is a heap by the chapter's words, a cell at a time: owner has for each cell the address of the object that occupies it, or 0.
type model struct {
	owner   []int
	objects map[int]*object
}

func newModel(words int) *model {
	return &model{owner: make([]int, words), objects: map[int]*object{}}
}

func (m *model) clone() *model {
	o := newModel(len(m.owner))
	copy(o.owner, m.owner)
	for at, x := range m.objects {
		o.objects[at] = &object{x.kind, append([]api.Word(nil), x.fields...)}
	}
	return o
}

// freeFrom returns how many free cells follow one another from a cell on.
func (m *model) freeFrom(cell int) int {
	n := 0
	for cell+n < len(m.owner) && m.owner[cell+n] == 0 {
		n++
	}
	return n
}

func (m *model) alloc(kind, size int) (int, api.Errno) {
	if kind < 1 || kind > 6 {
		return 0, api.ErrKind
	}
	if size < 0 || size > 4096 {
		return 0, api.ErrRange
	}
	for at := 1; at < len(m.owner); at++ {
		if m.freeFrom(at) > size {
			o := &object{kind: kind}
			m.owner[at] = at
			for i := range size {
				m.owner[at+1+i] = at
				o.fields = append(o.fields, 1)
			}
			m.objects[at] = o
			return at, api.OK
		}
	}
	return 0, api.ErrFull
}

func (m *model) free(addr int) api.Errno {
	if m.objects[addr] == nil {
		return api.ErrAddr
	}
	for cell, at := range m.owner {
		if at == addr {
			m.owner[cell] = 0
		}
	}
	delete(m.objects, addr)
	return api.OK
}

// field returns a field, and an error if there is none.
func (m *model) field(addr, i int) (*api.Word, api.Errno) {
	o := m.objects[addr]
	if o == nil {
		return nil, api.ErrAddr
	}
	if i < 0 || i >= len(o.fields) {
		return nil, api.ErrRange
	}
	return &o.fields[i], api.OK
}

func (m *model) set(addr, i int, w api.Word) api.Errno {
	f, e := m.field(addr, i)
	if e == api.OK {
		*f = w
	}
	return e
}

func (m *model) next(addr int) int {
	for at := max(addr, 1); at < len(m.owner); at++ {
		if m.objects[at] != nil {
			return at
		}
	}
	return 0
}

func (m *model) space() (room, longest int) {
	for cell := 1; cell < len(m.owner); cell++ {
		if m.owner[cell] == 0 {
			room++
		}
		longest = max(longest, m.freeFrom(cell))
	}
	return room, longest
}

// agree fails if anything that a heap tells differs from its model.
func agree(t *testing.T, h *heap.Heap, m *model) {
	t.Helper()
	room, longest := m.space()
	if h.Words() != len(m.owner) || h.Room() != room || h.Longest() != longest {
		t.Fatalf("Words %d, Room %d, Longest %d, want %d, %d, %d", h.Words(), h.Room(), h.Longest(), len(m.owner), room, longest)
	}
	for at := -2; at < len(m.owner)+70; at++ {
		if got, want := h.Next(at), m.next(at); got != want {
			t.Fatalf("Next(%d) = %d, want %d", at, got, want)
		}
		k, ke := h.Kind(at)
		n, ne := h.Size(at)
		o := m.objects[at]
		if o == nil {
			if k != 0 || n != 0 || ke != api.ErrAddr || ne != api.ErrAddr {
				t.Fatalf("no object at %d: Kind %d, %d, Size %d, %d", at, k, ke, n, ne)
			}
			o = &object{}
		} else if k != o.kind || n != len(o.fields) || ke != api.OK || ne != api.OK {
			t.Fatalf("the object at %d: Kind %d, %d, Size %d, %d", at, k, ke, n, ne)
		}
		for i := -1; i <= len(o.fields); i++ {
			w, e := h.Get(at, i)
			f, want := m.field(at, i)
			if e != want || e != api.OK && w != 0 || e == api.OK && w != *f {
				t.Fatalf("Get(%d, %d) = %d, %d", at, i, w, e)
			}
		}
	}
}

// pair is a heap and its model.
type pair struct {
	h *heap.Heap
	m *model
}

// act does one thing to both, and fails if they answer differently.
func (p pair) act(t *testing.T, r *rand.Rand) {
	t.Helper()
	words := p.h.Words()
	at := p.m.next(r.Intn(words))
	if r.Intn(8) == 0 {
		at = r.Intn(words+4) - 2
	}
	switch r.Intn(4) {
	case 0, 1:
		kind, size := r.Intn(8), r.Intn(2+r.Intn(words))-1
		got, e := p.h.Alloc(kind, size)
		want, f := p.m.alloc(kind, size)
		if got != want || e != f {
			t.Fatalf("Alloc(%d, %d) = %d, %d, want %d, %d", kind, size, got, e, want, f)
		}
	case 2:
		if e, f := p.h.Free(at), p.m.free(at); e != f {
			t.Fatalf("Free(%d) = %d, want %d", at, e, f)
		}
	case 3:
		i, w := r.Intn(6)-1, api.Word(r.Uint64()>>r.Intn(64))
		if e, f := p.h.Set(at, i, w), p.m.set(at, i, w); e != f {
			t.Fatalf("Set(%d, %d, %d) = %d, want %d", at, i, w, e, f)
		}
	}
}

// TestP2_Model holds heaps of many sizes, and copies of them that go on by themselves, against models.
func TestP2_Model(t *testing.T) {
	r := rand.New(rand.NewSource(2))
	for words := 2; words <= 150; words++ {
		all := []pair{{heap.New(words), newModel(words)}}
		for step := range 120 {
			for _, p := range all {
				p.act(t, r)
				agree(t, p.h, p.m)
			}
			if step%50 == 20 {
				all = append(all, pair{all[0].h.Copy(), all[0].m.clone()})
			}
		}
	}
}
