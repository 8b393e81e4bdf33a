package infer_test

import (
	"fmt"
	"math"
	"math/rand"
	"reflect"
	"slices"
	"strings"
	"sync"
	"testing"
	"unsafe"

	"marquetry/api"
	"marquetry/infer"
	"marquetry/resolve"
	"marquetry/row"
)

// spoil changes something somewhere in a term, so that it need not be valid any more.
func spoil(r *rand.Rand, x *api.Term) {
	if len(x.Args) > 0 && r.Intn(3) > 0 {
		spoil(r, &x.Args[r.Intn(len(x.Args))])
		return
	}
	if len(x.Cases) > 0 && r.Intn(3) > 0 {
		c := &x.Cases[r.Intn(len(x.Cases))]
		if r.Intn(2) == 0 {
			spoil(r, &c.Body)
			return
		}
		c.P.Kind, c.P.V, c.P.N = r.Intn(11), r.Intn(4)-1, int64(r.Intn(3)-1)
		return
	}
	switch r.Intn(8) {
	case 0:
		x.Kind = r.Intn(22) - 1
	case 1:
		x.V = []int{0, 1, 2, -1, 1 << 20, 1<<20 + 1, math.MaxInt, math.MinInt}[r.Intn(8)]
	case 2:
		x.N = []int64{0, 1, 2, 9, -1, 1 << 61, 1 << 62, math.MinInt64}[r.Intn(8)]
	case 3:
		x.S = []string{"", "a", "\xff", strings.Repeat("a", 4097)}[r.Intn(4)]
	case 4:
		x.Labels = [][]string{nil, {"a"}, {""}, {"a", "a"}, {"b", "a"}}[r.Intn(5)]
	case 5:
		x.Args = append(x.Args, unit())
	case 6:
		x.Args = nil
	case 7:
		x.Cases = append(x.Cases, api.Case{P: api.TPat{Kind: r.Intn(11)}, Body: unit()})
	}
}

// TestP1_Spoiled: all calls end, without panic and without a change of the term, whatever that is; only a valid one has a type,
// which is valid and canonical, and with an error there is none.
func TestP1_Spoiled(t *testing.T) {
	m := &maker{Rand: rand.New(rand.NewSource(1))}
	tried := map[api.Errno]int{}
	for i := range 30000 {
		x := m.random(1 + i%5)
		for range m.Intn(3) {
			spoil(m.Rand, &x)
		}
		before := fmt.Sprintf("%+v", x)
		found, e, at := infer.Infer(x)
		if fmt.Sprintf("%+v", x) != before {
			t.Fatalf("%s: changed", before)
		}
		if resolve.May(x) == (e == api.ErrForm) || (e == api.OK || e == api.ErrForm) && at != 0 {
			t.Fatalf("%s: %d at %d", before, e, at)
		}
		if e != api.OK && !reflect.DeepEqual(found, api.Type{}) || e == api.OK && (!row.May(found) || !reflect.DeepEqual(found, row.Canon(found))) {
			t.Fatalf("%s: %d, %+v", before, e, found)
		}
		tried[e]++
	}
	if tried[api.OK] < 1000 || tried[api.ErrForm] < 1000 || tried[api.ErrType] < 1000 {
		t.Errorf("%v", tried)
	}
}

// TestP1_Deep: terms as deep as they may be, and deeper ones.
func TestP1_Deep(t *testing.T) {
	known := func(i int) api.TPat { return api.TPat{Kind: api.PVar, V: i} }
	for name, c := range map[string]struct {
		wrap func(i int, x api.Term) api.Term
		want finding
	}{
		"function": {func(i int, x api.Term) api.Term { return fun(i, match(x, unit(), known(1000+i))) }, finding{text: "('1 -> unit)"}},
		"callee":   {func(i int, x api.Term) api.Term { return of(api.TApp, fun(i, unit()), x) }, finding{text: "unit"}},
		"argument": {func(i int, x api.Term) api.Term { return of(api.TApp, fun(i, use(i)), x) }, finding{text: "unit"}},
		"let":      {func(i int, x api.Term) api.Term { return then(i, x, use(i)) }, finding{text: "unit"}},
		"after":    {func(i int, x api.Term) api.Term { return then(i, unit(), x) }, finding{text: "unit"}},
		"value":    {func(i int, x api.Term) api.Term { return then(i, fun(1000+i, x), unit()) }, finding{text: "unit"}},
		"general": {func(i int, x api.Term) api.Term {
			return then(i, fun(1000+i, x), of(api.TApp, use(i), use(i)))
		}, finding{text: "unit"}},
		"rec":    {func(i int, x api.Term) api.Term { return binding(api.TRec, i, fun(1000+i, unit()), x) }, finding{text: "unit"}},
		"branch": {func(i int, x api.Term) api.Term { return alike(x, unit()) }, finding{text: "unit"}},
		"match":  {func(i int, x api.Term) api.Term { return match(x, use(i), known(i)) }, finding{text: "unit"}},
		"body":   {func(i int, x api.Term) api.Term { return match(unit(), x, known(i)) }, finding{text: "unit"}},
		"try":    {func(i int, x api.Term) api.Term { return binding(api.TTry, i, x, of(api.TRaise, use(i))) }, finding{text: "unit"}},
		"tag":    {func(i int, x api.Term) api.Term { return tag(x) }, fails(api.ErrMany, 0)},
		"value within values": {func(i int, x api.Term) api.Term {
			return then(i, named(api.TField, "a0", record(x)), unit())
		}, finding{text: "unit"}},
		"reference": {func(i int, x api.Term) api.Term { return op(api.OpDeref, op(api.OpRef, x)) }, finding{text: "unit"}},
	} {
		x, depth := unit(), 0
		for {
			next := c.wrap(depth, x)
			if !resolve.May(next) {
				if got := find(next); got != fails(api.ErrForm, 0) {
					t.Errorf("%s, too deep: %v", name, got)
				}
				break
			}
			x = next
			depth++
		}
		if got := find(x); got != c.want || depth < 100 {
			t.Errorf("%s: %v, want %v", name, got, c.want)
		}
	}
}

// TestP1_Grown: the types of variables may have very many parts, which take little time; only a term's type may not.
func TestP1_Grown(t *testing.T) {
	const n = 180
	x := func(last api.Term) api.Term {
		vars := []int{0}
		for i := n; i > 0; i-- {
			last = then(1000+i, alike(use(i-1), pair(use(i))), last)
			vars = append(vars, n+1-i)
		}
		return knowing(then(5000, fun(6000, use(0)), last), vars...)
	}
	for i, c := range []struct {
		last api.Term
		want finding
	}{
		{unit(), finding{text: "unit"}},
		{use(n), finding{text: "'1"}},
		{use(n - 3), finding{text: "{a0: {a0: {a0: '1, b0: '1}, b0: {a0: '1, b0: '1}}, b0: {a0: {a0: '1, b0: '1}, b0: {a0: '1, b0: '1}}}"}},
		{placed(use(0)), fails(api.ErrMany, here)},
		{placed(use(5000)), fails(api.ErrMany, here)},
		{then(7000, fun(7001, use(n-2)), use(n)), finding{text: "'1"}},
		{then(7000, fun(7001, use(7001)), use(7000)), finding{text: "('1 -> '1)"}},
		{then(7000, fun(7001, alike(use(7001), use(n))), use(7000)), finding{text: "('1 -> '1)"}},
		{fun(7000, match(placed(use(0)), unit(), api.TPat{Kind: api.PAny})), fails(api.ErrMany, here)},
	} {
		if got := find(x(c.last)); got != c.want {
			t.Errorf("%d: %v, want %v", i, got, c.want)
		}
	}
}

// TestP1_Wide: terms with about as many parts as they may have, in which much is bound and much is general.
func TestP1_Wide(t *testing.T) {
	var lets []api.Term
	for i := range 2000 {
		lets = append(lets, then(20000+i, fun(30000+i, use(30000+i)), unit()))
	}
	bound := func(x api.Term) api.Term {
		for i := range 30 {
			p := fields(250)
			for j := range p.Args {
				p.Args[j] = api.TPat{Kind: api.PVar, V: 300*i + j}
			}
			x = match(raised(), x, p)
		}
		return x
	}
	if got := find(bound(placed(record(lets...)))); got != fails(api.ErrMany, here) {
		t.Errorf("%v", got)
	}
	x := unit()
	for i := range 500 {
		y := lets[i]
		y.Args[1] = alike(use(20000+i), lets[500+i].Args[0])
		x = then(40000+i, y, x)
	}
	if got := find(bound(x)); got != (finding{text: "unit"}) {
		t.Errorf("%v", got)
	}
}

// pieces adds where the lists and texts of a type stand in memory.
func pieces(l []unsafe.Pointer, t api.Type) []unsafe.Pointer {
	if len(t.Args) > 0 {
		l = append(l, unsafe.Pointer(&t.Args[0]))
	}
	if len(t.Row.Fields) > 0 {
		l = append(l, unsafe.Pointer(&t.Row.Fields[0]))
	}
	for _, a := range t.Args {
		l = pieces(l, a)
	}
	for _, f := range t.Row.Fields {
		l = append(l, unsafe.Pointer(unsafe.StringData(f.Label)))
		l = pieces(l, f.T)
	}
	return l
}

// TestP1_OwnMemory: the lists and labels of a type are none of the term's, of another type's, nor of its own at another place.
func TestP1_OwnMemory(t *testing.T) {
	for _, src := range []string{
		"let x = {first = 1, second = fun x -> x} in {one = x, two = x, three = #First x}",
		"fun x -> {first = x.name, second = x, third = {x with name = x}}",
		"let f = fun x -> fun y -> (if true then x else y); x.name in {f = f, g = f, h = fun x -> f x}",
		"fun x -> match x with #First {name = y} -> {one = y, two = x} | #Second y -> {one = y, two = x} end",
		"fun x -> fun y -> (if true then x else {first = y, second = y}); (if true then y else fun z -> z.name); {one = x, two = y}",
	} {
		x := read(t, src)
		seen := map[unsafe.Pointer]bool{}
		var walk func(x api.Term)
		walk = func(x api.Term) {
			for _, s := range append(x.Labels, x.S) {
				seen[unsafe.Pointer(unsafe.StringData(s))] = true
			}
			for _, a := range x.Args {
				walk(a)
			}
			for _, c := range x.Cases {
				walk(c.Body)
				for _, s := range append(c.P.Labels, c.P.S) {
					seen[unsafe.Pointer(unsafe.StringData(s))] = true
				}
				for _, p := range c.P.Args {
					for _, s := range append(p.Labels, p.S) {
						seen[unsafe.Pointer(unsafe.StringData(s))] = true
					}
				}
			}
		}
		walk(x)
		for range 2 {
			found, e, at := infer.Infer(x)
			if e != api.OK {
				t.Fatalf("%s: %d at %d", src, e, at)
			}
			for _, p := range pieces(nil, found) {
				if seen[p] {
					t.Fatalf("%s: shared memory", src)
				}
				seen[p] = true
			}
		}
	}
}

// TestP1_Rules: neither earlier calls nor others at the same time change what is found.
func TestP1_Rules(t *testing.T) {
	run := func() []finding {
		m := &maker{Rand: rand.New(rand.NewSource(2))}
		var l []finding
		for i := range 2000 {
			l = append(l, find(m.random(1+i%6)))
		}
		return l
	}
	m := &maker{Rand: rand.New(rand.NewSource(3))}
	var shared []api.Term
	for i := range 200 {
		shared = append(shared, m.random(1+i%6))
	}
	first := run()
	var wait sync.WaitGroup
	for range 4 {
		wait.Go(func() {
			for _, x := range shared {
				find(x)
			}
			if !slices.Equal(run(), first) {
				t.Error("something else is found")
			}
		})
	}
	wait.Wait()
	loop := tag(unit())
	loop.Args[0] = loop
	if got := find(loop); got != fails(api.ErrForm, 0) {
		t.Errorf("what contains itself: %v", got)
	}
}
