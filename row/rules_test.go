package row_test

import (
	"fmt"
	"math"
	"math/rand"
	"reflect"
	"runtime/debug"
	"slices"
	"strings"
	"sync"
	"testing"
	"unsafe"

	"marquetry/api"
	"marquetry/row"
)

// spoiled returns a type that need not be valid: any field may hold anything.
func spoiled(r *rand.Rand, depth int) api.Type {
	pick := func() int { return []int{0, 1, 2, 3, 4, 1, 2, 3, -1, 9, math.MaxInt, math.MinInt}[r.Intn(12)] }
	t := api.Type{Kind: r.Intn(14) - 1}
	if r.Intn(3) == 0 {
		t.Kind = api.TyVar
	}
	if r.Intn(4) == 0 || t.Kind == api.TyVar {
		t.V = pick()
	}
	if depth > 0 && r.Intn(3) == 0 {
		for range r.Intn(4) {
			t.Args = append(t.Args, spoiled(r, depth-1))
		}
	}
	if depth > 0 && r.Intn(2) == 0 {
		t.Kind = api.TyRecord + r.Intn(2)
		for range r.Intn(4) {
			f := api.Field{Label: []string{"", "a", "b", "c", "\xff"}[r.Intn(5)], Pres: r.Intn(5) - 1}
			if r.Intn(2) == 0 {
				f.P = pick()
			}
			if r.Intn(4) > 0 {
				f.T = spoiled(r, depth-1)
			}
			t.Row.Fields = append(t.Row.Fields, f)
		}
		t.Row.Rest = pick()
	}
	return t
}

// TestP1_Spoiled: all calls end, without panic and without a change of what they are passed, whatever that is.
func TestP1_Spoiled(t *testing.T) {
	for seed := range 10000 {
		r := rand.New(rand.NewSource(int64(seed)))
		s := row.New()
		for range 1 + r.Intn(8) {
			a, b := spoiled(r, r.Intn(4)), spoiled(r, r.Intn(4))
			if r.Intn(3) == 0 {
				b = fun(b, a)
				a = fun(a, b.Args[0])
			}
			before := fmt.Sprintf("%+v %+v", a, b)
			most := r.Intn(20) - 2
			if e := s.Unify(a, b); !slices.Contains([]api.Errno{api.OK, api.ErrType, api.ErrOccurs, api.ErrMany}, e) {
				t.Fatalf("%s: %d", before, e)
			}
			if n := s.Size(a, most); n < 0 || n > max(most, -1)+1 || most >= 0 && n == 0 {
				t.Fatalf("%s: size %d", before, n)
			}
			if s.Size(a, 1000) < 1000 {
				s.Apply(a)
			}
			s.Vars(b)
			s.Fresh()
			row.May(a)
			row.Size(b, most)
			row.Text(a)
			row.Canon(b)
			if fmt.Sprintf("%+v %+v", a, b) != before {
				t.Fatalf("%s: changed", before)
			}
		}
	}
}

// TestP1_Deep: types may be deeper than Go's own calls could be, and there may be very many variables' values within another.
func TestP1_Deep(t *testing.T) {
	defer debug.SetMaxStack(debug.SetMaxStack(1 << 19))
	const n = 50000
	wraps := map[string]func(i int, t api.Type) api.Type{
		"ref": func(_ int, t api.Type) api.Type { return ref(t) },
		"fun": func(i int, t api.Type) api.Type { return fun(v(i+5), t) },
		"arg": func(_ int, t api.Type) api.Type { return fun(t, num) },
		"row": func(i int, t api.Type) api.Type {
			return rec(i+10*n, is("a", t), may("b", i+5*n, num), not("c"))
		},
	}
	for name, wrap := range wraps {
		x := nested(n, v(1), wrap)
		parts := map[string]int{"ref": n + 1, "fun": 2*n + 1, "arg": 2*n + 1, "row": 5*n + 1}[name]
		s := row.New()
		if got := s.Size(x, math.MaxInt); got != parts || row.Size(x, math.MaxInt) != parts {
			t.Errorf("%s: %d parts, want %d", name, got, parts)
		}
		if got := len(s.Vars(x)); got != map[string]int{"ref": 1, "fun": n + 1, "arg": 1, "row": 2*n + 1}[name] {
			t.Errorf("%s: %d variables", name, got)
		}
		if !row.May(x) {
			t.Errorf("%s: not valid", name)
		}
		same := row.Text(s.Apply(x))
		if same != row.Text(x) || row.Text(row.Canon(x)) == "" {
			t.Errorf("%s: another text", name)
		}
		if e := s.Unify(x, num); e != api.ErrMany {
			t.Errorf("%s: %d", name, e)
		}
		if e := row.New().Unify(num, x); e != api.ErrMany {
			t.Errorf("%s: %d", name, e)
		}
	}
	s := row.New()
	s.Apply(v(4 * n))
	for i := 1; i <= n; i++ {
		if e := s.Unify(v(i), ref(v(i+1))); e != api.OK {
			t.Fatal(e)
		}
		if e := s.Unify(rec(i+2*n), rec(0, is("a", rec(i+2*n+1)))); e != api.OK {
			t.Fatal(e)
		}
	}
	if got := s.Size(v(1), math.MaxInt); got != n+1 {
		t.Errorf("%d parts", got)
	}
	if got := s.Size(rec(1+2*n), math.MaxInt); got != 2*n+1 {
		t.Errorf("%d parts", got)
	}
	if got := s.Vars(fun(v(1), rec(1+2*n))); !slices.Equal(got, []int{n + 1, 3*n + 1}) {
		t.Errorf("%v", got)
	}
	if got := row.Text(s.Apply(v(1))); len(got) != 6*n+len("'50001") {
		t.Errorf("%d bytes", len(got))
	}
	if e := s.Unify(v(1), num); e != api.ErrMany {
		t.Errorf("%d", e)
	}
}

// TestP1_Shared: a type whose parts stand at the same place has as many parts as if each had one of its own; what contains
// itself has more than any number.
func TestP1_Shared(t *testing.T) {
	x := v(7)
	for range 60 {
		x = fun(x, x)
	}
	s := row.New()
	for _, most := range []int{0, 1, 512, 1 << 40, 1 << 60} {
		if a, b := row.Size(x, most), s.Size(x, most); a != most+1 || b != most+1 {
			t.Errorf("%d, %d of %d", a, b, most)
		}
	}
	if got := s.Size(x, math.MaxInt); got != 1<<61-1 {
		t.Errorf("%d", got)
	}
	if got := s.Vars(x); !slices.Equal(got, []int{7}) {
		t.Errorf("%v", got)
	}
	if n := s.Fresh(); n != 8 {
		t.Errorf("%d", n)
	}
	if !row.May(x) {
		t.Error("not valid")
	}
	if e := s.Unify(x, num); e != api.ErrMany {
		t.Errorf("%d", e)
	}
	loop := fun(num, v(3))
	loop.Args[0] = loop
	s = row.New()
	for _, most := range []int{0, 1, 512, 1 << 40, math.MaxInt - 1} {
		if a, b := row.Size(loop, most), s.Size(loop, most); a != most+1 || b != most+1 {
			t.Errorf("%d, %d of %d", a, b, most)
		}
	}
	if e := s.Unify(num, loop); e != api.ErrMany {
		t.Errorf("%d", e)
	}
	if n := s.Fresh(); n != 4 {
		t.Errorf("%d", n)
	}
}

// memory returns what a type's lists and labels occupy.
func memory(t api.Type) []unsafe.Pointer {
	var l []unsafe.Pointer
	if len(t.Args) > 0 {
		l = append(l, unsafe.Pointer(unsafe.SliceData(t.Args)))
	}
	if len(t.Row.Fields) > 0 {
		l = append(l, unsafe.Pointer(unsafe.SliceData(t.Row.Fields)))
	}
	for _, a := range t.Args {
		l = append(l, memory(a)...)
	}
	for _, f := range t.Row.Fields {
		l = append(l, unsafe.Pointer(unsafe.StringData(f.Label)))
		l = append(l, memory(f.T)...)
	}
	return l
}

// long returns a type of many lists and labels, made anew.
func long() (a, b api.Type) {
	x := func(s string) string { return strings.Repeat(s, 20) }
	inner := fun(v(1), rec(0, is(x("p"), ref(v(2))), may(x("q"), 3, num)))
	a = fun(rec(10, is(x("a"), inner), not(x("b"))), fun(v(4), v(4)))
	b = fun(rec(11, is(x("a"), v(5)), may(x("b"), 6, v(7)), is(x("c"), tags(12, is(x("T"), v(1))))), fun(inner, v(8)))
	return a, b
}

// TestP1_OwnMemory: no result shares memory with what was passed, with another result, or with the solver; nor do two lists of
// one result.
func TestP1_OwnMemory(t *testing.T) {
	a, b := long()
	s := row.New()
	if e := s.Unify(a, b); e != api.OK {
		t.Fatal(e)
	}
	seen := map[unsafe.Pointer]string{}
	add := func(name string, x api.Type) {
		for _, p := range memory(x) {
			if before, ok := seen[p]; ok {
				t.Errorf("%s shares memory with %s", name, before)
			}
			seen[p] = name
		}
	}
	again := v(77)
	s.Unify(again, fun(v(5), v(8)))
	for _, x := range []api.Type{a, b} {
		for _, p := range memory(x) {
			seen[p] = "what was passed"
		}
	}
	for i, x := range []api.Type{a, b, v(5), v(8), again, a, fun(v(5), v(5))} {
		add(fmt.Sprint("result ", i), s.Apply(x))
		add(fmt.Sprint("Canon ", i), row.Canon(x))
	}
	l, m := s.Vars(a), s.Vars(a)
	l[0] = 99
	if m[0] == 99 || s.Vars(a)[0] == 99 {
		t.Error("lists share memory")
	}
	if p, q := row.Text(a), row.Text(a); unsafe.StringData(p) == unsafe.StringData(q) {
		t.Error("texts share memory")
	}
}

// spoil changes everything in a type's lists.
func spoil(t api.Type) {
	for i := range t.Args {
		spoil(t.Args[i])
		t.Args[i] = api.Type{Kind: api.TyExn}
	}
	for i := range t.Row.Fields {
		spoil(t.Row.Fields[i].T)
		t.Row.Fields[i] = api.Field{Label: "spoilt", Pres: api.Present, T: api.Type{Kind: api.TyExn}}
	}
}

// TestP1_Kept: what was passed, and what was returned, may be changed.
func TestP1_Kept(t *testing.T) {
	a, b := long()
	s := row.New()
	if e := s.Unify(a, b); e != api.OK {
		t.Fatal(e)
	}
	x := []api.Type{v(4), v(5), v(8), v(7), rec(10, is("a", num), not("b"))}
	var texts []string
	for _, y := range x {
		texts = append(texts, row.Text(s.Apply(y)))
	}
	spoil(a)
	spoil(b)
	for range 2 {
		for i, y := range x {
			r := s.Apply(y)
			if got := row.Text(r); got != texts[i] {
				t.Errorf("%s, want %s", got, texts[i])
			}
			spoil(r)
		}
	}
	a, _ = long()
	before := row.Text(a)
	c := row.Canon(a)
	spoil(c)
	s.Apply(a)
	s.Size(a, 10)
	s.Vars(a)
	row.May(a)
	if row.Text(a) != before {
		t.Errorf("%s", row.Text(a))
	}
}

// TestP1_Same: the same calls return the same, whatever else goes on.
func TestP1_Same(t *testing.T) {
	run := func() []string {
		var l []string
		for seed := range 300 {
			m := &maker{rand.New(rand.NewSource(int64(seed))), 3, []string{"a", "b", "c"}}
			s := row.New()
			s.Apply(v(150))
			for range 5 {
				a := m.make(3)
				b := m.near(a, 2)
				e := s.Unify(a, b)
				if e != api.OK {
					l = append(l, fmt.Sprint(e))
					break
				}
				x := s.Apply(fun(a, b))
				l = append(l, fmt.Sprint(row.Text(x), row.Text(row.Canon(x)), row.May(x), s.Vars(a), s.Size(b, 100), s.Fresh()))
			}
		}
		return l
	}
	first := run()
	var wait sync.WaitGroup
	for range 4 {
		wait.Go(func() {
			if again := run(); !reflect.DeepEqual(again, first) {
				t.Error("other results")
			}
		})
	}
	wait.Wait()
}

// TestP1_SharedArguments: several solvers, and the functions that need none, may be passed the same types at the same time.
func TestP1_SharedArguments(t *testing.T) {
	a, b := long()
	want := ""
	var wait sync.WaitGroup
	var lock sync.Mutex
	for range 8 {
		wait.Go(func() {
			for range 50 {
				s := row.New()
				e := s.Unify(a, b)
				got := fmt.Sprint(e, row.Text(s.Apply(a)), row.Text(row.Canon(b)), row.May(a), row.Size(b, 50), s.Vars(a))
				lock.Lock()
				if want == "" {
					want = got
				}
				if got != want {
					t.Errorf("%s, want %s", got, want)
				}
				lock.Unlock()
			}
		})
	}
	wait.Wait()
}
