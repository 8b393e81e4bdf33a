package row_test

import (
	"math"
	"reflect"
	"slices"
	"testing"

	"marquetry/api"
	"marquetry/row"
)

var (
	num   = api.Type{Kind: api.TyInt}
	truth = api.Type{Kind: api.TyBool}
	str   = api.Type{Kind: api.TyString}
)

func v(n int) api.Type { return api.Type{Kind: api.TyVar, V: n} }

func fun(a, b api.Type) api.Type { return api.Type{Kind: api.TyFun, Args: []api.Type{a, b}} }

func ref(a api.Type) api.Type { return api.Type{Kind: api.TyRef, Args: []api.Type{a}} }

func array(a api.Type) api.Type { return api.Type{Kind: api.TyArray, Args: []api.Type{a}} }

func rec(rest int, l ...api.Field) api.Type {
	return api.Type{Kind: api.TyRecord, Row: api.Row{Fields: l, Rest: rest}}
}

func tags(rest int, l ...api.Field) api.Type {
	return api.Type{Kind: api.TyTags, Row: api.Row{Fields: l, Rest: rest}}
}

func is(label string, t api.Type) api.Field {
	return api.Field{Label: label, Pres: api.Present, T: t}
}

func may(label string, p int, t api.Type) api.Field {
	return api.Field{Label: label, Pres: api.PresVar, P: p, T: t}
}

func not(label string) api.Field { return api.Field{Label: label} }

// sized returns a type of so many parts.
func sized(parts int) api.Type {
	t := num
	for parts > 2 {
		t = fun(num, t)
		parts -= 2
	}
	if parts == 2 {
		t = ref(t)
	}
	return t
}

// nested returns a type within which another one is so deep.
func nested(depth int, t api.Type, wrap func(i int, t api.Type) api.Type) api.Type {
	for i := range depth {
		t = wrap(i, t)
	}
	return t
}

// solved returns a solver that has unified some pairs, one after the other.
func solved(t *testing.T, pairs ...[2]api.Type) *row.Solver {
	t.Helper()
	s := row.New()
	for i, p := range pairs {
		if e := s.Unify(p[0], p[1]); e != api.OK {
			t.Fatalf("pair %d: %d", i, e)
		}
	}
	return s
}

// applied fails if a type has another text when it is resolved.
func applied(t *testing.T, s *row.Solver, x api.Type, want string) {
	t.Helper()
	if got := row.Text(s.Apply(x)); got != want {
		t.Errorf("%s is %s, want %s", row.Text(x), got, want)
	}
}

func TestExamples(t *testing.T) {
	applied(t, solved(t, [2]api.Type{fun(v(1), num), fun(truth, v(2))}), fun(v(1), v(2)), "(bool -> int)")
	applied(t, solved(t, [2]api.Type{rec(1, is("a", num)), rec(3, is("b", v(2)))}), rec(1, is("a", num)), "{a: int, b: '2| 4}")
	applied(t, solved(t, [2]api.Type{rec(0, may("a", 1, num)), rec(0)}), rec(0, may("a", 1, num)), "{}")
	if e := row.New().Unify(v(1), fun(v(1), num)); e != api.ErrOccurs {
		t.Errorf("%d", e)
	}
	if e := row.New().Unify(rec(0, is("a", num)), rec(0)); e != api.ErrType {
		t.Errorf("%d", e)
	}
}

// TestP10_1_Fresh: one more than the greatest number so far, wherever that was passed, or was made.
func TestP10_1_Fresh(t *testing.T) {
	s := row.New()
	fresh := func(want int) {
		t.Helper()
		if got := s.Fresh(); got != want {
			t.Fatalf("Fresh() = %d, want %d", got, want)
		}
	}
	fresh(1)
	fresh(2)
	s.Apply(v(7))
	fresh(8)
	s.Apply(v(3))
	s.Apply(num)
	fresh(9)
	s.Size(rec(12, may("a", 11, v(10))), 1)
	fresh(13)
	s.Size(fun(num, tags(20)), -1)
	fresh(21)
	s.Vars(ref(array(rec(0, may("a", 30, v(22))))))
	fresh(31)
	s.Vars(rec(0, may("a", 32, rec(0, is("b", v(40))))))
	fresh(41)
	s.Unify(v(50), num)
	fresh(51)
	s.Unify(num, v(60))
	fresh(61)
	s.Unify(rec(70, is("a", num)), rec(71, is("b", num)))
	fresh(73)
	s.Unify(v(80), v(90))
	s.Apply(v(80))
	fresh(91)
	s.Unify(rec(92), rec(93))
	fresh(94)
	s.Unify(rec(95, is("a", num)), rec(0, is("a", num), is("b", num)))
	fresh(96)
	if other := row.New().Fresh(); other != 1 {
		t.Errorf("another solver: %d", other)
	}
	s = row.New()
	s.Apply(v(math.MaxInt - 1))
	fresh(math.MaxInt)
}

// TestP10_1_Apply: variables of all sorts are replaced by what is known of them, wherever they stand.
func TestP10_1_Apply(t *testing.T) {
	s := solved(t,
		[2]api.Type{v(98), v(99)},
		[2]api.Type{v(1), fun(v(2), v(3))},
		[2]api.Type{v(2), ref(num)},
		[2]api.Type{rec(0, may("a", 4, v(5))), rec(0)},
		[2]api.Type{rec(0, may("a", 6, v(5))), rec(0, is("a", truth))},
		[2]api.Type{rec(0, may("a", 7, v(5))), rec(0, may("a", 8, v(5)))},
		[2]api.Type{rec(10, is("b", num)), rec(0, is("a", v(1)), is("b", num), is("d", num))},
		[2]api.Type{tags(20, is("M", num)), tags(0, is("M", num), may("N", 7, v(3)))},
		[2]api.Type{rec(30, is("b", num)), rec(31, is("b", num), may("d", 7, v(3)))},
		[2]api.Type{rec(31, is("b", num), may("d", 62, num)), rec(32, is("a", str), is("b", num), is("c", num), is("e", num))},
		[2]api.Type{rec(40), rec(41)},
		[2]api.Type{rec(50), rec(0)})
	for _, c := range []struct {
		x    api.Type
		want string
	}{
		{v(1), "((int ref) -> '3)"},
		{v(3), "'3"},
		{v(99), "'99"},
		{api.Type{Kind: api.TyString}, "string"},
		{array(v(1)), "(((int ref) -> '3) array)"},
		{fun(v(1), ref(v(2))), "(((int ref) -> '3) -> ((int ref) ref))"},
		{v(5), "bool"},
		{v(98), "'99"},
		{rec(9, is("x", v(1)), may("y", 7, v(2))), "{x: ((int ref) -> '3), y?8: (int ref)| 9}"},
		{rec(9, may("x", 4, v(1)), may("y", 6, v(2))), "{x!, y: (int ref)| 9}"},
		{rec(0, may("x", 4, v(1)), may("y", 6, v(2))), "{y: (int ref)}"},
		{rec(10, is("b", v(2))), "{a: ((int ref) -> '3), b: (int ref), d: int}"},
		{rec(10, may("b", 4, v(2))), "{a: ((int ref) -> '3), d: int}"},
		{rec(10, not("b")), "{a: ((int ref) -> '3), d: int}"},
		{rec(10, may("b", 7, v(2))), "{a: ((int ref) -> '3), b?8: (int ref), d: int}"},
		{tags(20, is("M", v(2))), "[M: (int ref), N?8: '3]"},
		{rec(30, is("b", num)), "{a: string, b: int, c: int, d?8: '3, e: int| 101}"},
		{rec(31, is("b", num), not("d")), "{a: string, b: int, c: int, d!, e: int| 101}"},
		{rec(32, not("a"), is("b", num), is("c", num), is("e", num)), "{a!, b: int, c: int, d?62: int, e: int| 101}"},
		{rec(40), "{| 41}"},
		{rec(50), "{}"},
		{rec(50, not("a")), "{}"},
		{fun(rec(40), rec(40)), "({| 41} -> {| 41})"},
	} {
		applied(t, s, c.x, c.want)
	}
}

// TestP10_1_Resolved: a resolved type is valid: what its fields hold besides is zero.
func TestP10_1_Resolved(t *testing.T) {
	s := solved(t,
		[2]api.Type{rec(9, may("a", 1, num), may("b", 2, num)), rec(8, not("a"), is("b", num))},
		[2]api.Type{v(3), rec(0, is("c", num))})
	want := fun(rec(8, not("a"), is("b", num)), rec(0, is("c", num)))
	got := s.Apply(fun(rec(9, may("a", 1, fun(v(7), v(6))), may("b", 2, num)), v(3)))
	if row.Text(got) != row.Text(want) || !row.May(got) || got.Args[0].Row.Fields[0].T.Kind != 0 || got.Args[0].Row.Fields[1].P != 0 || got.Args[1].V != 0 {
		t.Errorf("%+v", got)
	}
}

// TestP10_1_Size: the parts of the resolved type, up to one more than most.
func TestP10_1_Size(t *testing.T) {
	s := solved(t,
		[2]api.Type{v(1), fun(v(2), v(2))},
		[2]api.Type{v(2), ref(num)},
		[2]api.Type{rec(0, may("a", 4, v(9))), rec(0)},
		[2]api.Type{rec(0, may("a", 5, v(9))), rec(0, is("a", num))},
		[2]api.Type{rec(10), rec(11, is("b", v(2)), may("c", 4, v(1)), may("d", 5, v(1)), may("e", 6, v(2)))},
		[2]api.Type{rec(20), rec(0, is("b", v(2)), may("c", 4, v(1)), may("d", 5, v(1)), may("e", 6, v(2)))})
	for i, c := range []struct {
		x    api.Type
		want int
	}{
		{num, 1},
		{v(77), 1},
		{v(2), 2},
		{v(1), 5},
		{fun(v(1), v(2)), 8},
		{rec(0), 1},
		{rec(10), 1 + 3 + 1 + 6 + 3},
		{rec(20), 1 + 3 + 6 + 3},
		{rec(10, not("a")), 1 + 1 + 3 + 1 + 6 + 3},
		{rec(20, not("a")), 1 + 3 + 6 + 3},
		{rec(0, may("a", 4, v(1)), may("b", 5, v(1))), 7},
		{rec(12, may("a", 4, v(1)), may("b", 5, v(1))), 8},
	} {
		for most := range 20 {
			if got := s.Size(c.x, most); got != min(c.want, most+1) {
				t.Errorf("%d: Size(%s, %d) = %d, want %d", i, row.Text(c.x), most, got, min(c.want, most+1))
			}
		}
		for _, most := range []int{-1, -2, math.MinInt} {
			if got := s.Size(c.x, most); got != 0 {
				t.Errorf("%d: at most %d: %d", i, most, got)
			}
		}
		for _, most := range []int{1000, math.MaxInt32, math.MaxInt - 1, math.MaxInt} {
			if got := s.Size(c.x, most); got != c.want {
				t.Errorf("%d: at most %d: %d", i, most, got)
			}
		}
		if got := row.Size(s.Apply(c.x), 1000); got != c.want {
			t.Errorf("%d: Apply returned %d parts, want %d", i, got, c.want)
		}
	}
}

// TestP10_1_Vars: in the order in which Canon visits them, each once.
func TestP10_1_Vars(t *testing.T) {
	s := solved(t,
		[2]api.Type{v(99), v(99)},
		[2]api.Type{v(1), fun(v(3), v(2))},
		[2]api.Type{rec(0, may("a", 4, v(9))), rec(0)},
		[2]api.Type{rec(0, may("a", 5, v(9))), rec(0, may("a", 6, v(8)))},
		[2]api.Type{rec(10, is("c", num)), rec(11, is("b", v(7)), is("c", num), may("d", 5, v(1)))},
		[2]api.Type{rec(20), rec(0, may("z", 4, v(30)))},
		[2]api.Type{v(40), rec(10, is("c", v(41)))})
	for i, c := range []struct {
		x    api.Type
		want []int
	}{
		{num, nil},
		{v(99), []int{99}},
		{v(1), []int{3, 2}},
		{fun(v(2), v(1)), []int{2, 3}},
		{fun(v(1), v(1)), []int{3, 2}},
		{ref(array(v(1))), []int{3, 2}},
		{rec(0, may("a", 4, v(51)), may("b", 5, v(52)), is("c", v(9))), []int{6, 52, 8}},
		{rec(12, may("a", 5, v(51)), may("b", 5, v(50))), []int{6, 51, 50, 12}},
		{rec(10, is("c", v(50))), []int{7, 50, 6, 3, 2, 100}},
		{rec(10, is("c", rec(10, is("c", v(50))))), []int{7, 50, 6, 3, 2, 100}},
		{rec(10, is("c", fun(rec(10, is("c", v(50))), v(51)))), []int{7, 50, 6, 3, 2, 100, 51}},
		{rec(10, may("c", 60, tags(61, is("Z", v(62))))), []int{7, 60, 62, 61, 6, 3, 2, 100}},
		{fun(v(40), rec(10, is("c", v(42)))), []int{7, 41, 6, 3, 2, 100, 42}},
		{rec(20), nil},
		{tags(13, not("A"), is("B", v(14))), []int{14, 13}},
	} {
		got := s.Vars(c.x)
		if !slices.Equal(got, c.want) {
			t.Errorf("%d: Vars(%s) = %v, want %v", i, row.Text(c.x), got, c.want)
		}
	}
}

// TestP10_1_LittleTime: the parts of what very many parts have been made of are counted and listed fast.
func TestP10_1_LittleTime(t *testing.T) {
	const n = 200
	s := row.New()
	for i := 1; i <= n; i++ {
		if e := s.Unify(v(i), fun(v(i+1), v(i+1))); e != api.OK {
			t.Fatal(e)
		}
	}
	for _, c := range []struct{ most, want int }{{1 << 40, 1<<40 + 1}, {511, 512}, {math.MaxInt - 1, math.MaxInt}, {math.MaxInt, math.MaxInt}} {
		if got := s.Size(v(1), c.most); got != c.want {
			t.Errorf("at most %d: %d, want %d", c.most, got, c.want)
		}
	}
	if got := s.Size(v(n-19), 1<<40); got != 1<<21-1 {
		t.Errorf("%d", got)
	}
	if got := s.Vars(fun(v(n+2), v(1))); !slices.Equal(got, []int{n + 2, n + 1}) {
		t.Errorf("%v", got)
	}
	if e := s.Unify(v(n+1), num); e != api.OK || len(s.Vars(v(1))) > 0 {
		t.Errorf("%d, %v", e, s.Vars(v(1)))
	}
	rows := row.New()
	rows.Apply(v(1000))
	for i := 1; i <= n; i++ {
		twice := rec(500+i, is("a", rec(i+1)), is("c", tags(0, may("A", 800+i, rec(i+1)))))
		if e := rows.Unify(rec(i), twice); e != api.OK {
			t.Fatal(e)
		}
	}
	for _, most := range []int{1 << 40, 511} {
		if got := rows.Size(rec(1), most); got != most+1 {
			t.Errorf("at most %d: %d", most, got)
		}
	}
	if got := rows.Size(rec(n-9), 1<<40); got != 6<<10-5 {
		t.Errorf("%d", got)
	}
	if got := rows.Vars(rec(1)); len(got) != 2*n+1 || got[0] != n+1 || got[1] != 800+n || got[2] != 1000+n {
		t.Errorf("%v", got)
	}
}

// TestP10_1_LongWay: it takes little time, too, where many variables stand for one another, one after the other.
func TestP10_1_LongWay(t *testing.T) {
	const n = 100000
	s := row.New()
	s.Apply(v(10 * n))
	for i := 1; i < n; i++ {
		for _, p := range [][2]api.Type{{v(1), v(i + 1)}, {rec(2 * n), rec(2*n + i)}, {rec(0, may("a", 4*n, num)), rec(0, may("a", 4*n+i, num))}} {
			if e := s.Unify(p[0], p[1]); e != api.OK {
				t.Fatal(e)
			}
		}
	}
	x := rec(2*n, may("a", 4*n, v(1)))
	if got := s.Size(x, 10); got != 3 {
		t.Errorf("%d", got)
	}
	if got := s.Vars(x); !slices.Equal(got, []int{5*n - 1, n, 3*n - 1}) {
		t.Errorf("%v", got)
	}
}

// TestP10_3_May: each thing that a valid type has, and types that lack only that.
func TestP10_3_May(t *testing.T) {
	ty := func(kind int, args ...api.Type) api.Type { return api.Type{Kind: kind, Args: args} }
	valid := []api.Type{
		num, truth, str, ty(api.TyUnit), ty(api.TyExn), v(1), v(math.MaxInt),
		fun(v(1), v(1)), ref(v(2)), array(v(2)), fun(ref(num), array(fun(num, num))),
		rec(0), rec(1), tags(0), tags(1),
		rec(0, is("a", num)), rec(0, may("a", 1, num)), rec(1, not("a")),
		rec(0, is("a", num), is("aa", num), is("b", num)), rec(0, is("B", num), is("a", num)), rec(0, is("\x00", num), is("\xff", num)),
		rec(4, may("a", 1, v(2)), may("b", 1, v(2)), may("c", 3, v(2))),
		fun(rec(1), rec(1)), fun(rec(1, is("a", v(2))), rec(1, may("a", 4, v(3)))), fun(rec(1, not("a")), rec(1, may("a", 4, v(3)))),
		fun(tags(1, is("a", num)), tags(1, is("a", num))),
		fun(rec(1, is("a", num)), rec(2, is("a", num))), fun(rec(1, is("a", num)), tags(2, is("a", num))),
		rec(1, is("a", rec(1, is("a", num)))),
		{Kind: api.TyInt, Args: []api.Type{}, Row: api.Row{Fields: []api.Field{}}},
		rec(1, api.Field{Label: "a", T: api.Type{Args: []api.Type{}, Row: api.Row{Fields: []api.Field{}}}}),
		sized(5000),
	}
	for i, x := range valid {
		for _, in := range []api.Type{x, fun(x, num), fun(num, x), ref(x), rec(0, is("z", x)), tags(0, may("z", 1000, x))} {
			if !row.May(in) {
				t.Errorf("valid %d: %s", i, row.Text(in))
			}
		}
	}
	r1 := api.Row{Rest: 1}
	fields := api.Row{Fields: []api.Field{is("a", num)}}
	invalid := []api.Type{
		{}, ty(12), ty(-1), ty(100), ty(0, num), v(0), v(-1), ty(math.MaxInt), ty(math.MinInt),
		{Kind: api.TyInt, V: 1}, {Kind: api.TyBool, V: -1}, ty(api.TyString, num), {Kind: api.TyUnit, Row: r1}, {Kind: api.TyExn, Row: fields}, {Kind: api.TyInt, Row: api.Row{Rest: -1}},
		{Kind: api.TyVar, V: 1, Args: []api.Type{num}}, {Kind: api.TyVar, V: 1, Row: r1}, {Kind: api.TyVar, V: 2, Row: fields},
		ty(api.TyFun), ty(api.TyFun, num), ty(api.TyFun, num, num, num), {Kind: api.TyFun, V: 1, Args: []api.Type{num, num}},
		{Kind: api.TyFun, Args: []api.Type{num, num}, Row: r1}, {Kind: api.TyFun, Args: []api.Type{num, num}, Row: fields},
		ty(api.TyRef), ty(api.TyRef, num, num), {Kind: api.TyRef, V: 2, Args: []api.Type{num}}, {Kind: api.TyRef, Args: []api.Type{num}, Row: r1},
		ty(api.TyArray), ty(api.TyArray, num, num), {Kind: api.TyArray, V: 2, Args: []api.Type{num}}, {Kind: api.TyArray, Args: []api.Type{num}, Row: fields},
		{Kind: api.TyRecord, V: 1}, ty(api.TyRecord, num), {Kind: api.TyTags, V: 1}, ty(api.TyTags, num), {Kind: api.TyTags, V: 1, Row: api.Row{Rest: 2}},
		rec(-1), tags(-1), rec(-1, is("a", num)), rec(math.MinInt),
		rec(0, is("", num)), rec(1, not("")), rec(0, is("a", num), is("", num)), rec(0, is("", num), is("a", num)),
		rec(0, is("b", num), is("a", num)), rec(0, is("a", num), is("a", num)), rec(1, not("a"), is("a", num)), rec(0, is("a", num), is("c", num), is("b", num)),
		rec(0, is("a", num), is("B", num)), rec(0, is("aa", num), is("a", num)),
		rec(0, not("a")), tags(0, is("a", num), not("b")), rec(0, not("a"), is("b", num)),
		rec(1, api.Field{Label: "a", P: 2}), rec(1, api.Field{Label: "a", T: num}), rec(1, api.Field{Label: "a", T: api.Type{V: 2}}), rec(1, api.Field{Label: "a", P: -2}),
		rec(1, api.Field{Label: "a", T: api.Type{Args: []api.Type{num}}}), rec(1, api.Field{Label: "a", T: api.Type{Row: api.Row{Rest: 2}}}), rec(1, api.Field{Label: "a", T: api.Type{Row: fields}}),
		rec(1, api.Field{Label: "a", T: api.Type{Args: []api.Type{{}}}}),
		rec(0, api.Field{Label: "a", Pres: api.Present, P: 1, T: num}), rec(0, api.Field{Label: "a", Pres: api.Present, P: -1, T: num}), rec(0, is("a", api.Type{})), rec(0, is("a", v(0))),
		rec(0, may("a", 0, num)), rec(0, may("a", -1, num)), rec(0, may("a", 1, api.Type{})), rec(1, may("a", 2, fun(num, api.Type{}))),
		rec(1, api.Field{Label: "a", Pres: 3, T: num}), rec(1, api.Field{Label: "a", Pres: -1}), rec(1, api.Field{Label: "a", Pres: 3, P: 2, T: num}), rec(1, api.Field{Label: "a", Pres: 4, P: 2, T: num}),
		fun(v(1), rec(1)), fun(rec(1), v(1)), fun(v(1), rec(0, may("a", 1, num))), rec(1, may("a", 1, num)), rec(0, may("a", 1, v(1))), rec(1, is("a", v(1))),
		fun(rec(0, may("a", 1, num)), tags(1, is("a", num))),
		fun(rec(1), tags(1)), fun(tags(1), rec(1)), fun(rec(1, is("a", num)), tags(1, is("a", num))),
		fun(rec(1), rec(1, is("a", num))), fun(rec(1, is("a", num)), rec(1)), fun(rec(1, is("a", num)), rec(1, is("b", num))), rec(1, is("a", rec(1))),
		fun(rec(1, is("a", num)), rec(1, is("a", num), is("b", num))), fun(rec(1, not("a")), rec(1)), fun(rec(1, is("a", num), not("b")), rec(1, is("a", num))),
		rec(1, is("a", rec(1, is("a", rec(1, is("b", num)))))),
	}
	for i, x := range invalid {
		for _, in := range []api.Type{x, fun(x, num), fun(num, x), ref(x), array(x), rec(0, is("z", x)), tags(0, may("z", 1000, x)), rec(1001, is("x", num), is("z", x))} {
			if row.May(in) {
				t.Errorf("invalid %d: %s", i, row.Text(in))
			}
		}
	}
}

// TestP10_3_Size: of any type, valid or not, as it stands there.
func TestP10_3_Size(t *testing.T) {
	for i, c := range []struct {
		x    api.Type
		want int
	}{
		{api.Type{}, 1}, {num, 1}, {v(1), 1}, {ref(num), 2}, {array(ref(num)), 3}, {fun(num, ref(v(1))), 4},
		{rec(0), 1}, {tags(5), 1}, {rec(5, not("a")), 2}, {rec(5, is("a", num)), 3}, {rec(0, may("a", 1, ref(num)), is("b", num)), 6},
		{rec(0, not("a")), 2},
		{rec(1, api.Field{Label: "a", T: num}), 2},
		{rec(1, api.Field{Label: "a", Pres: 3, T: num}), 3},
		{api.Type{Kind: api.TyInt, Args: []api.Type{num, ref(num)}}, 4},
		{api.Type{Kind: api.TyVar, V: 1, Args: []api.Type{num}}, 2},
		{api.Type{Kind: 77, Args: []api.Type{num}, Row: rec(0, is("b", num), is("a", num)).Row}, 6},
		{api.Type{Kind: api.TyFun, Args: []api.Type{num}}, 2},
		{sized(512), 512}, {sized(513), 513},
	} {
		for most := range 600 {
			if got := row.Size(c.x, most); got != min(c.want, most+1) {
				t.Errorf("%d: Size(%s, %d) = %d, want %d", i, row.Text(c.x), most, got, min(c.want, most+1))
			}
		}
		for _, most := range []int{-1, math.MinInt} {
			if got := row.Size(c.x, most); got != 0 {
				t.Errorf("%d: at most %d: %d", i, most, got)
			}
		}
		for _, most := range []int{1000, math.MaxInt - 1, math.MaxInt} {
			if got := row.Size(c.x, most); got != c.want {
				t.Errorf("%d: at most %d: %d", i, most, got)
			}
		}
	}
}

// TestP10_3_Canon: the numbers by the order of visits, each sort of variables among the others.
func TestP10_3_Canon(t *testing.T) {
	for _, c := range []struct {
		x, want api.Type
	}{
		{num, num},
		{v(1), v(1)},
		{v(9), v(1)},
		{fun(v(9), v(9)), fun(v(1), v(1))},
		{fun(v(2), v(1)), fun(v(1), v(2))},
		{fun(fun(v(3), v(1)), fun(v(2), v(3))), fun(fun(v(1), v(2)), fun(v(3), v(1)))},
		{ref(array(v(5))), ref(array(v(1)))},
		{rec(1, may("a", 2, v(3))), rec(3, may("a", 1, v(2)))},
		{rec(9, may("a", 7, v(5)), is("b", v(8)), may("c", 7, v(4)), not("d")), rec(5, may("a", 1, v(2)), is("b", v(3)), may("c", 1, v(4)), not("d"))},
		{tags(9, is("a", rec(8, is("b", v(7)))), is("c", rec(8, is("b", v(6))))), tags(4, is("a", rec(2, is("b", v(1)))), is("c", rec(2, is("b", v(3)))))},
		{fun(rec(9, is("a", v(1))), rec(9, is("a", v(2)))), fun(rec(2, is("a", v(1))), rec(2, is("a", v(3))))},
		{fun(rec(0, may("x", 30, num)), tags(20)), fun(rec(0, may("x", 1, num)), tags(2))},
	} {
		got := row.Canon(c.x)
		if row.Text(got) != row.Text(c.want) || row.Size(got, 1000) != row.Size(c.x, 1000) || !row.May(got) {
			t.Errorf("Canon(%s) = %s, want %s", row.Text(c.x), row.Text(got), row.Text(c.want))
		}
		if again := row.Canon(got); !reflect.DeepEqual(again, got) {
			t.Errorf("Canon(%s) = %s", row.Text(got), row.Text(again))
		}
	}
}

// TestP10_4_Text: each kind, each presence, what is missing, what is unknown.
func TestP10_4_Text(t *testing.T) {
	for _, c := range []struct {
		x    api.Type
		want string
	}{
		{num, "int"}, {truth, "bool"}, {str, "string"}, {api.Type{Kind: api.TyUnit}, "unit"}, {api.Type{Kind: api.TyExn}, "exn"},
		{v(1), "'1"}, {v(120), "'120"}, {v(0), "'0"}, {v(-7), "'-7"}, {v(math.MinInt), "'-9223372036854775808"},
		{fun(num, v(2)), "(int -> '2)"}, {fun(fun(num, num), fun(num, num)), "((int -> int) -> (int -> int))"},
		{ref(num), "(int ref)"}, {array(ref(fun(num, num))), "(((int -> int) ref) array)"},
		{rec(0), "{}"}, {rec(3), "{| 3}"}, {rec(-3), "{| -3}"}, {tags(0), "[]"}, {tags(12), "[| 12]"},
		{rec(0, is("a", num)), "{a: int}"}, {rec(4, is("a", num)), "{a: int| 4}"}, {rec(4, not("a")), "{a!| 4}"}, {rec(0, not("a")), "{a!}"},
		{rec(4, is("a", num), may("b", 3, fun(num, v(2))), not("c")), "{a: int, b?3: (int -> '2), c!| 4}"},
		{tags(4, not("A"), is("B", rec(0, is("x", num))), may("C", 3, tags(0))), "[A!, B: {x: int}, C?3: []| 4]"},
		{rec(0, api.Field{Label: "a", Pres: 3, P: 5, T: num}), "{a?5: int}"}, {rec(0, api.Field{Label: "a", Pres: -1, T: num}), "{a?0: int}"}, {rec(0, may("a", -5, num)), "{a?-5: int}"},
		{rec(0, api.Field{Label: "a", Pres: api.Present, P: 5, T: num}), "{a: int}"}, {rec(0, api.Field{Label: "a", P: 5, T: num}), "{a!}"},
		{rec(0, is("", num), is("b", num), is("a ,:", num)), "{: int, b: int, a ,:: int}"},
		{api.Type{}, "?"}, {api.Type{Kind: 12}, "?"}, {api.Type{Kind: -1, Args: []api.Type{num}}, "?"}, {api.Type{Kind: math.MaxInt}, "?"},
		{api.Type{Kind: api.TyFun}, "(? -> ?)"}, {api.Type{Kind: api.TyFun, Args: []api.Type{num}}, "(int -> ?)"}, {api.Type{Kind: api.TyFun, Args: []api.Type{num, truth, str}}, "(int -> bool)"},
		{api.Type{Kind: api.TyRef}, "(? ref)"}, {api.Type{Kind: api.TyArray}, "(? array)"}, {api.Type{Kind: api.TyRef, Args: []api.Type{num, truth}}, "(int ref)"},
		{api.Type{Kind: api.TyInt, V: 3, Args: []api.Type{num}, Row: api.Row{Rest: 2}}, "int"}, {api.Type{Kind: api.TyVar, V: 3, Args: []api.Type{num}}, "'3"},
		{fun(api.Type{}, ref(api.Type{Kind: 99})), "(? -> (? ref))"}, {rec(0, is("a", api.Type{})), "{a: ?}"},
	} {
		if got := row.Text(c.x); got != c.want {
			t.Errorf("%q, want %q", got, c.want)
		}
	}
}
