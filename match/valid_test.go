package match_test

import (
	"fmt"
	"math"
	"strings"
	"testing"

	"marquetry/api"
	"marquetry/match"
	"marquetry/resolve"
)

// fails fails if some patterns have another error, or anything beside it.
func fails(t *testing.T, want api.Errno, l ...api.TPat) {
	t.Helper()
	if got, e := match.Compile(l); e != want || !same(got, api.Tree{}) {
		t.Errorf("%.300s: %d, not %d", fmt.Sprintf("%+v", l), e, want)
	}
}

// numbered returns a pattern whose variables are different, as a valid term's are.
func numbered(p api.TPat, next *int) api.TPat {
	if p.Kind == api.PVar {
		p.V = *next
		*next++
	}
	p.Args = bare(p.Args)
	for i, a := range p.Args {
		p.Args[i] = numbered(a, next)
	}
	return p
}

// permitted reports whether resolve.May permits a pattern, whatever its variables are.
func permitted(p api.TPat) bool {
	next := 0
	u := api.Term{Kind: api.TUnit}
	return resolve.May(api.Term{Kind: api.TMatch, Args: []api.Term{u}, Cases: []api.Case{{P: numbered(p, &next), Body: u}}})
}

// judged fails if Compile permits a pattern and resolve.May does not, or the other way round: alone, within others, and where
// nothing comes to it. It returns whether it is permitted.
func judged(t *testing.T, p api.TPat) bool {
	t.Helper()
	want := api.ErrForm
	if permitted(p) {
		want = api.OK
	}
	for i, l := range [][]api.TPat{{p}, {wild, p}, {p, wild}, {tag("A", p)}, {rec("k l", wild, p)}, {num(1), tag("T", rec("k", tag("T", p))), wild}} {
		if got, e := match.Compile(l); e != want || e != api.OK && !same(got, api.Tree{}) {
			t.Errorf("%.300s, %d: %d, not %d", fmt.Sprintf("%+v", p), i, e, want)
		}
	}
	return want == api.OK
}

// TestP12_1_Form: all patterns that are put together from a few values a field.
func TestP12_1_Form(t *testing.T) {
	tried, permitted := 0, 0
	for kind := -1; kind <= api.PRecord+1; kind++ {
		for _, v := range []int{0, 1, -1, math.MaxInt} {
			for _, n := range []int64{0, 1, 2, -1, math.MinInt64} {
				for _, s := range []string{"", "s"} {
					for _, labels := range [][]string{nil, {}, {"a"}, {""}, {"b", "a"}, {"a", "a"}, {"a", ""}} {
						for _, args := range [][]api.TPat{nil, {}, {wild}, {x(5)}, {{}}, {wild, wild}, {unit, truth(2)}, {wild, wild, wild}} {
							tried++
							if judged(t, api.TPat{Kind: kind, V: v, N: n, S: s, Labels: labels, Args: args}) {
								permitted++
							}
						}
					}
				}
			}
		}
	}
	if tried < 20000 || permitted < 60 {
		t.Errorf("%d of %d", permitted, tried)
	}
}

// TestP12_1_FormEdges: the edges of what each field may hold.
func TestP12_1_FormEdges(t *testing.T) {
	ok := func(want bool, p api.TPat) {
		t.Helper()
		if judged(t, p) != want {
			t.Errorf("%.100s: not %v", fmt.Sprintf("%+v", p), want)
		}
	}
	for n, is := range map[int64]bool{0: true, 1: true, -1: true, 2: true, 1<<62 - 1: true, -1 << 62: true, 1 << 62: false, -1<<62 - 1: false, math.MaxInt64: false, math.MinInt64: false} {
		ok(is, num(n))
		ok(n == 0 || n == 1, truth(n))
		ok(n == 0, api.TPat{Kind: api.PExn, N: n, S: "E"})
	}
	for n, is := range map[int]bool{0: true, 1: true, api.MaxText: true, api.MaxText + 1: false, 1 << 20: false} {
		s := strings.Repeat("\xff", n)
		ok(is, text(s))
		ok(n > 0, exn(s))
		ok(n > 0, tag(s, wild))
		ok(n > 0, api.TPat{Kind: api.PRecord, Labels: []string{"a", s}, Args: []api.TPat{wild, wild}})
	}
	for _, kind := range []int{math.MinInt, -1, 0, api.PRecord + 1, 1<<32 + api.PAny, math.MaxInt} {
		ok(false, api.TPat{Kind: kind})
	}
	for _, c := range []struct {
		labels string
		is     bool
	}{{"a b c", true}, {"c a b", true}, {"a A aa", true}, {"a b a", false}, {"a b b", false}, {"b b a", false}} {
		ok(c.is, rec(c.labels, wild, wild, wild))
	}
	ok(false, rec("a b", wild))
	ok(false, rec("a", wild, wild))
	// Two records may have the same labels.
	ok(true, rec("a b", rec("a b", wild, wild), rec("a b", wild, wild)))
	// Variables are not asked for, but only a PVar has one.
	for _, v := range []int{-1, 0, 1 << 20, 1<<20 + 1, math.MaxInt, math.MinInt} {
		ok(true, x(v))
		ok(true, rec("a b", x(v), x(v)))
		ok(v == 0, api.TPat{Kind: api.PAny, V: v})
		ok(v == 0, api.TPat{Kind: api.PInt, V: v})
	}
	if _, e := match.Compile([]api.TPat{x(1), x(1)}); e != api.OK {
		t.Error(e)
	}
}

// wide returns a record of so many parts.
func wide(parts int, p api.TPat) api.TPat {
	q := rec("")
	for i := range parts - 1 {
		q.Labels = append(q.Labels, fmt.Sprint("l", i))
		q.Args = append(q.Args, p)
	}
	return q
}

// tower returns a pattern of so many parts, each within the one before it.
func tower(parts int) api.TPat {
	p := wild
	for range parts - 1 {
		p = tag("A", p)
	}
	return p
}

func repeated(n int, p api.TPat) []api.TPat {
	var l []api.TPat
	for range n {
		l = append(l, p)
	}
	return l
}

// TestP12_1_Many: how many patterns there may be, and how many parts one may have.
func TestP12_1_Many(t *testing.T) {
	var numbers []api.TPat
	want := test("", fail)
	for i := range 64 {
		numbers = append(numbers, num(int64(i)))
		want.Branches = append(want.Branches, on(num(int64(i)), leaf(i)))
	}
	is(t, want, numbers...)
	is(t, leaf(0), repeated(64, wild)...)
	for _, n := range []int{65, 66, 128, 1000} {
		fails(t, api.ErrMany, repeated(n, wild)...)
		fails(t, api.ErrMany, repeated(n, api.TPat{})...)
	}
	is(t, leaf(0), wide(256, wild))
	is(t, leaf(0), repeated(64, wide(256, wild))...)
	is(t, leaf(0), wide(2, wide(255, wild)))
	compiled(t, tower(256))
	half := rec("p q", tower(127), wide(128, wild))
	compiled(t, half)
	half.Args[0] = tower(128)
	for _, p := range []api.TPat{wide(257, wild), wide(258, wild), wide(5000, wild), wide(2, wide(256, wild)), tower(257), half, wide(129, tag("A", wild)), wide(100, wide(100, wild))} {
		fails(t, api.ErrMany, p)
		fails(t, api.ErrMany, wild, p)
		fails(t, api.ErrMany, append(repeated(63, wild), p)...)
	}
}

// TestP12_1_Order: too many patterns or parts come first, then forms, then too large a tree.
func TestP12_1_Order(t *testing.T) {
	bad := api.TPat{Kind: api.PBool, N: 2}
	fails(t, api.ErrForm, bad, wild)
	fails(t, api.ErrForm, repeated(64, bad)...)
	fails(t, api.ErrMany, repeated(65, bad)...)
	fails(t, api.ErrMany, bad, wide(257, wild))
	fails(t, api.ErrMany, wide(257, bad))
	fails(t, api.ErrForm, wide(256, bad))
	// What has parts of which its kind has none has too many of them, too.
	fails(t, api.ErrForm, api.TPat{Kind: api.PAny, Args: repeated(255, wild)})
	fails(t, api.ErrMany, api.TPat{Kind: api.PAny, Args: repeated(256, wild)})
	fails(t, api.ErrForm, api.TPat{Kind: api.PAny, Labels: make([]string, 300)})
	fails(t, api.ErrMany, bushy(9, 0)...)
	fails(t, api.ErrForm, append(bushy(9, 0), bad)...)
	fails(t, api.ErrForm, append([]api.TPat{bad}, bushy(9, 0)...)...)
}

// bushy returns n patterns whose tree has 2^(n+2) - 3 parts, and before them some more, each of which adds one; the first of
// these adds two.
func bushy(n, more int) []api.TPat {
	var l []api.TPat
	for i := range more {
		l = append(l, rec("z", num(int64(i))))
	}
	for i := range n {
		l = append(l, rec(fmt.Sprint("a", i, " b", i), num(1), num(1)))
	}
	return l
}

// TestP12_1_MaxTree: a tree of MaxTree parts, and one with one more.
func TestP12_1_MaxTree(t *testing.T) {
	for n := range 9 {
		if got := size(compiled(t, bushy(n, 0)...)); got != 1<<(n+2)-3 {
			t.Errorf("%d: %d", n, got)
		}
	}
	for more, want := range map[int]int{0: 1021, 1: 1023, 2: 1024} {
		l := bushy(8, more)
		if tree, _ := agrees(t, l); size(tree) != want {
			t.Errorf("%d: %d, not %d", more, size(tree), want)
		}
		// Rows to which nothing comes add nothing.
		if tree := compiled(t, append(l, wild, wild)...); size(tree) != want {
			t.Errorf("%d: %d, not %d", more, size(tree), want)
		}
	}
	for _, l := range [][]api.TPat{bushy(8, 3), bushy(8, 4), bushy(8, 40), bushy(9, 0), bushy(62, 0), append(bushy(8, 2), rec("y", num(1)))} {
		fails(t, api.ErrMany, l...)
	}
	// Two long ways: 1 + 254*2 + 1 parts each, and the test and Else at the root.
	two := []api.TPat{wide(256, num(1)), wide(256, num(2))}
	if tree, _ := agrees(t, two); size(tree) != 1020 {
		t.Error(size(tree))
	}
	fails(t, api.ErrMany, append(two, wide(256, num(3)))...)
}
