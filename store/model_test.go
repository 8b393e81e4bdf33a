package store_test

import (
	"math"
	"math/rand"
	"slices"
	"strings"
	"sync"
	"testing"

	"marquetry/api"
	"marquetry/gc"
	"marquetry/heap"
	"marquetry/store"
	"marquetry/word"
)

// model is a store by the chapter's words: a heap and a collector side by side.
type model struct {
	h      *heap.Heap
	g      *gc.GC
	cycles int
}

func (m *model) pick(roots []api.Word) {
	if m.g.Phase() == 0 {
		m.g.Begin(roots)
	} else if m.g.Step() {
		m.cycles++
	}
}

// complete ends a cycle that is in progress.
func (m *model) complete() {
	for n := m.cycles; m.g.Phase() != 0 && n == m.cycles; {
		m.pick(nil)
	}
}

func (m *model) alloc(kind, size int, roots []api.Word) (api.Word, api.Errno) {
	for try := range 3 {
		addr, e := m.g.Alloc(kind, size)
		switch {
		case e == api.OK:
			return api.Word(2 * addr), api.OK
		case e != api.ErrFull || try == 2:
			return 0, e
		case try == 1:
			m.pick(roots)
		}
		m.complete()
	}
	panic("three tries")
}

func (m *model) text(t string, roots []api.Word) (api.Word, api.Errno) {
	if len(t) > mostBytes {
		return 0, api.ErrRange
	}
	w, e := m.alloc(api.KindString, 1+(len(t)+7)/8, roots)
	if e != api.OK {
		return 0, e
	}
	m.h.Set(int(w/2), 0, api.Word(2*len(t)+1))
	for i := range (len(t) + 7) / 8 {
		x := api.Word(0)
		for k, c := range []byte(t[8*i : min(8*i+8, len(t))]) {
			x |= api.Word(c) << (8 * k)
		}
		m.h.Set(int(w/2), i+1, x)
	}
	return w, api.OK
}

func (m *model) str(w api.Word) (string, api.Errno) {
	addr := m.addr(w)
	kind, e := m.h.Kind(addr)
	if e != api.OK {
		return "", api.ErrAddr
	}
	if kind != api.KindString {
		return "", api.ErrKind
	}
	count, e := m.h.Get(addr, 0)
	size, _ := m.h.Size(addr)
	n := int64(count) >> 1
	if e != api.OK || count%2 == 0 || n < 0 || n > mostBytes || 1+(n+7)/8 != int64(size) {
		return "", api.ErrForm
	}
	var b strings.Builder
	for k := range n {
		x, _ := m.h.Get(addr, 1+int(k/8))
		b.WriteByte(byte(x >> (8 * (k % 8))))
	}
	return b.String(), api.OK
}

// addr returns the address of a word, or 0.
func (m *model) addr(w api.Word) int {
	if w%2 == 1 || w > api.MaxWords*2 {
		return 0
	}
	return int(w / 2)
}

// pair is a store and its model.
type pair struct {
	s *store.Store
	m *model
}

// someWord returns mostly the word of an object of a heap.
func someWord(r *rand.Rand, h *heap.Heap) api.Word {
	switch r.Intn(8) {
	case 0:
		return word.Of(r.Int63() >> r.Intn(64))
	case 1:
		return api.Word(r.Uint64() >> r.Intn(64))
	}
	return word.Ref(h.Next(r.Intn(h.Words())))
}

// someRoots returns at most three words.
func (p pair) someRoots(r *rand.Rand) []api.Word {
	var l []api.Word
	for range r.Intn(4) {
		l = append(l, someWord(r, p.m.h))
	}
	return l
}

// act does one thing to both, and fails if they answer differently.
func (p pair) act(t *testing.T, r *rand.Rand) {
	t.Helper()
	roots := p.someRoots(r)
	w, x, i := someWord(r, p.m.h), someWord(r, p.m.h), r.Intn(6)-1
	switch r.Intn(7) {
	case 0, 1:
		p.s.Pick(roots)
		p.m.pick(roots)
	case 2:
		kind, size := r.Intn(8), r.Intn(7)-1
		got, e := p.s.Alloc(kind, size, roots)
		if want, f := p.m.alloc(kind, size, roots); got != want || e != f {
			t.Fatalf("Alloc(%d, %d) = %d, %d, want %d, %d", kind, size, got, e, want, f)
		}
	case 3:
		text := bytesOf(r.Intn(20), byte(r.Intn(256)))
		got, e := p.s.Text(text, roots)
		if want, f := p.m.text(text, roots); got != want || e != f {
			t.Fatalf("Text(%q) = %d, %d, want %d, %d", text, got, e, want, f)
		}
	case 4:
		got, e := p.s.String(w)
		if want, f := p.m.str(w); got != want || e != f {
			t.Fatalf("String(%d) = %q, %d, want %q, %d", w, got, e, want, f)
		}
	case 5, 6:
		if e, f := p.s.Set(w, i, x), p.m.g.Write(p.m.addr(w), i, x); e != f {
			t.Fatalf("Set(%d, %d, %d) = %d, want %d", w, i, x, e, f)
		}
	}
}

// agree fails if anything that a store tells differs from its model.
func (p pair) agree(t *testing.T) {
	t.Helper()
	if p.s.Cycles() != p.m.cycles || p.s.Room() != p.m.h.Room() {
		t.Fatalf("%d cycles, room %d, want %d, %d", p.s.Cycles(), p.s.Room(), p.m.cycles, p.m.h.Room())
	}
	for w := api.Word(0); w < api.Word(2*p.m.h.Words()+4); w++ {
		kind, _ := p.m.h.Kind(p.m.addr(w))
		size, _ := p.m.h.Size(p.m.addr(w))
		if p.s.Kind(w) != kind || p.s.Size(w) != size {
			t.Fatalf("kind %d, size %d of %d, want %d, %d", p.s.Kind(w), p.s.Size(w), w, kind, size)
		}
		for i := -1; i <= size; i++ {
			got, e := p.s.Get(w, i)
			if want, f := p.m.h.Get(p.m.addr(w), i); got != want || e != f {
				t.Fatalf("Get(%d, %d) = %d, %d, want %d, %d", w, i, got, e, want, f)
			}
		}
	}
}

// TestP4_Model holds stores of many sizes against models.
func TestP4_Model(t *testing.T) {
	r := rand.New(rand.NewSource(4))
	for words := 2; words <= 120; words++ {
		h := heap.New(words)
		p := pair{store.New(words), &model{h: h, g: gc.New(h)}}
		for range 500 {
			p.act(t, r)
			p.agree(t)
		}
	}
}

// thing is an object of an unlimited store without a collector. A field is a number's word, or a thing.
type thing struct {
	w      api.Word
	kind   int
	text   string
	fields []field
}

type field struct {
	number api.Word
	to     *thing
}

// word returns the word that a field must have.
func (f field) word() api.Word {
	if f.to != nil {
		return f.to.w
	}
	return f.number
}

// program holds some things, and nothing else.
type program struct {
	words int
	s     *store.Store
	held  []*thing
}

// roots returns the words of what the program holds.
func (p *program) roots() []api.Word {
	var l []api.Word
	for _, x := range p.held {
		l = append(l, x.w)
	}
	return l
}

// reached returns everything that the program can come to.
func (p *program) reached() []*thing {
	var l []*thing
	seen := map[*thing]bool{}
	for todo := slices.Clone(p.held); len(todo) > 0; todo = todo[1:] {
		x := todo[0]
		if seen[x] {
			continue
		}
		seen[x] = true
		l = append(l, x)
		for _, f := range x.fields {
			if f.to != nil {
				todo = append(todo, f.to)
			}
		}
	}
	return l
}

// hold has the program hold one more thing. The fourth or fifth one takes the place of another.
func (p *program) hold(r *rand.Rand, x *thing) {
	if len(p.held) > 3 && r.Intn(2) == 0 || len(p.held) > 4 {
		p.held[r.Intn(len(p.held))] = x
		return
	}
	p.held = append(p.held, x)
}

// full fails if an allocation of so many fields had to have space, by what the program reaches.
func (p *program) full(t *testing.T, e api.Errno, size int) {
	t.Helper()
	l := p.reached()
	cells := size * (len(l) + 1)
	for _, x := range l {
		cells += 1 + p.s.Size(x.w)
	}
	if e != api.ErrFull || p.words-1 > cells {
		t.Fatalf("error %d with %d cells, where %d things are reached: at most %d cells are no use for %d fields", e, p.words, len(l), cells, size)
	}
}

// alloc makes a thing, by Alloc or by Text.
func (p *program) alloc(t *testing.T, r *rand.Rand, most int) {
	t.Helper()
	x := &thing{kind: 2 + r.Intn(5)}
	size := r.Intn(most + 1)
	var e api.Errno
	if r.Intn(4) == 0 {
		x.kind, x.text = api.KindString, bytesOf(8*size+r.Intn(8), byte(r.Intn(256)))
		size = 1 + (len(x.text)+7)/8
		x.w, e = p.s.Text(x.text, p.roots())
	} else {
		x.fields = slices.Repeat([]field{{number: word.Of(0)}}, size)
		x.w, e = p.s.Alloc(x.kind, size, p.roots())
	}
	if e != api.OK {
		p.full(t, e, size)
		p.held = p.held[:len(p.held)/2]
		return
	}
	p.hold(r, x)
}

// use reads or writes a field of what the program holds.
func (p *program) use(t *testing.T, r *rand.Rand) {
	t.Helper()
	x := p.held[r.Intn(len(p.held))]
	if len(x.fields) == 0 {
		return
	}
	i := r.Intn(len(x.fields))
	if r.Intn(2) == 0 {
		w, e := p.s.Get(x.w, i)
		if w != x.fields[i].word() || e != api.OK {
			t.Fatalf("Get = %d, %d, want %d", w, e, x.fields[i].word())
		}
		if to := x.fields[i].to; to != nil {
			p.hold(r, to)
		}
		return
	}
	f := field{number: word.Of(r.Int63() - 1<<62)}
	if r.Intn(3) > 0 {
		f = field{to: p.held[r.Intn(len(p.held))]}
	}
	if e := p.s.Set(x.w, i, f.word()); e != api.OK {
		t.Fatalf("Set = %d", e)
	}
	x.fields[i] = f
}

// look fails if anything that the program reaches differs from what it would be without limits.
func (p *program) look(t *testing.T) {
	t.Helper()
	owner := map[api.Word]*thing{}
	for _, x := range p.reached() {
		if owner[x.w] != nil {
			t.Fatalf("two things have the word %d", x.w)
		}
		owner[x.w] = x
		if p.s.Kind(x.w) != x.kind {
			t.Fatalf("kind %d, want %d", p.s.Kind(x.w), x.kind)
		}
		if x.kind == api.KindString {
			if got, e := p.s.String(x.w); got != x.text || e != api.OK {
				t.Fatalf("String = %q, %d, want %q", got, e, x.text)
			}
			continue
		}
		if p.s.Size(x.w) != len(x.fields) {
			t.Fatalf("size %d, want %d", p.s.Size(x.w), len(x.fields))
		}
		for i, f := range x.fields {
			if w, e := p.s.Get(x.w, i); w != f.word() || e != api.OK {
				t.Fatalf("field %d is %d, %d, want %d", i, w, e, f.word())
			}
		}
	}
}

// run has the program do so many things, with so many picks among ten of them.
func (p *program) run(t *testing.T, r *rand.Rand, things, picks, most int) {
	t.Helper()
	for range things {
		for range 10 {
			if r.Intn(10) < picks {
				p.s.Pick(p.roots())
			}
		}
		switch n := r.Intn(8); {
		case n < 3 || len(p.held) == 0:
			p.alloc(t, r, most)
		case n < 7:
			p.use(t, r)
		default:
			p.held = slices.Delete(p.held, 0, 1)
		}
		p.look(t)
	}
}

// TestP4_6_Observes: with any picks and any number of cells, a program observes what it would observe without limits.
func TestP4_6_Observes(t *testing.T) {
	r := rand.New(rand.NewSource(46))
	cycles := 0
	for words := 2; words <= 90; words++ {
		for _, picks := range []int{0, 1, 4, 10} {
			p := &program{words: words, s: store.New(words)}
			p.run(t, r, 300, picks, 1+r.Intn(6))
			cycles += p.s.Cycles()
		}
	}
	if cycles < 1000 {
		t.Errorf("%d cycles only", cycles)
	}
}

// TestP4_6_Large: the same with the largest objects.
func TestP4_6_Large(t *testing.T) {
	r := rand.New(rand.NewSource(47))
	for _, words := range []int{api.MaxObject, api.MaxObject + 2, 20000, api.MaxWords} {
		p := &program{words: words, s: store.New(words)}
		p.run(t, r, 100, 3, api.MaxObject-2)
	}
}

// apart returns a full store with four references that lie apart, their words, and those of all objects. The gaps between them, each with an object, have so many cells; the one at wide has one more.
func apart(t *testing.T, gap, wide int) (s *store.Store, keep, all []api.Word) {
	t.Helper()
	cells := 4*2 + 5*gap
	if wide >= 0 {
		cells++
	}
	s = fresh(t, 1+cells)
	for i := range 5 {
		n := gap
		if i == wide {
			n++
		}
		if n > 0 {
			w, e := s.Alloc(api.KindArray, n-1, nil)
			if e != api.OK {
				t.Fatal(e)
			}
			all = append(all, w)
		}
		if i < 4 {
			w, e := s.Alloc(api.KindRef, 1, nil)
			if e != api.OK {
				t.Fatal(e)
			}
			keep, all = append(keep, w), append(all, w)
		}
	}
	if s.Room() != 0 || s.Cycles() != 0 {
		t.Fatalf("room %d, %d cycles", s.Room(), s.Cycles())
	}
	return s, keep, all
}

// TestP4_6_FullOnlyIf: an object for which there must be space by what the roots reach is allocated, whatever a cycle in progress keeps. With one cell less it need not be.
func TestP4_6_FullOnlyIf(t *testing.T) {
	for size := range 8 {
		for wide := -1; wide < 5; wide++ {
			for _, picked := range []int{0, 1, 2, 9, 15, 19} {
				s, keep, all := apart(t, size, wide)
				for range picked {
					s.Pick(all)
				}
				w, e := s.Alloc(api.KindArray, size, keep)
				if wide < 0 && (w != 0 || e != api.ErrFull) || wide >= 0 && (w != word.Ref(1+wide*(size+2)) || e != api.OK) {
					t.Errorf("gaps of %d, the wide one at %d, %d picks: %d, %d", size, wide, picked, w, e)
				}
			}
		}
	}
}

// history is what one sequence of calls from a seed returned, with arguments of any form.
func history(seed int64, steps int) []uint64 {
	r := rand.New(rand.NewSource(seed))
	s := store.New(2 + r.Intn(200))
	ends := []int{math.MinInt, math.MinInt + 1, -1 << 32, -1, api.MaxObject, api.MaxObject + 1, api.MaxWords, 1 << 31, 1 << 32, math.MaxInt}
	number := func(most int) int {
		if r.Intn(10) == 0 {
			return ends[r.Intn(len(ends))]
		}
		return r.Intn(most)
	}
	some := func() api.Word {
		if r.Intn(4) == 0 {
			return api.Word(r.Uint64() >> r.Intn(64))
		}
		return api.Word(r.Intn(400))
	}
	var l []uint64
	tell := func(e api.Errno, zero bool, x uint64) {
		if e != api.OK && !zero {
			x = math.MaxUint64 // what no call returns
		}
		l = append(l, uint64(e), x)
	}
	for range steps {
		roots := []api.Word{some(), some(), some()}[:r.Intn(4)]
		w, i := some(), number(6)
		s.Pick(roots)
		at, e := s.Alloc(number(8), number(12), roots)
		tell(e, at == 0, uint64(at))
		at, e = s.Text(strings.Repeat("t", max(0, min(number(30), 2*mostBytes))), roots)
		tell(e, at == 0, uint64(at))
		tell(s.Set(w, i, some()), true, 0)
		x, e := s.Get(w, i)
		tell(e, x == 0, uint64(x)>>1)
		text, e := s.String(w)
		tell(e, text == "", uint64(len(text)))
		l = append(l, uint64(s.Kind(w)), uint64(s.Size(w)), uint64(s.Room()), uint64(s.Cycles()))
	}
	return l
}

// TestP1_Rules: no call panics, an error leaves the other result zero, and neither earlier calls nor other stores at the same time change a result.
func TestP1_Rules(t *testing.T) {
	var first [][]uint64
	for seed := range int64(40) {
		l := history(seed, 400)
		if slices.Contains(l, math.MaxUint64) {
			t.Fatalf("seed %d: beside an error stands a result", seed)
		}
		first = append(first, l)
	}
	var wait sync.WaitGroup
	for range 4 {
		wait.Go(func() {
			for seed, l := range first {
				if !slices.Equal(history(int64(seed), 400), l) {
					t.Errorf("seed %d: another history", seed)
				}
			}
		})
	}
	wait.Wait()
}
