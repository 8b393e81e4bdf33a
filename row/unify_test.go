package row_test

import (
	"testing"

	"marquetry/api"
	"marquetry/row"
)

// A unification is what Unify should return for a new solver, and the texts of the two types, resolved after it.
type unification struct {
	a, b   api.Type
	e      api.Errno
	ta, tb string
}

func (u unification) check(t *testing.T, i int) {
	t.Helper()
	s := row.New()
	if e := s.Unify(u.a, u.b); e != u.e {
		t.Errorf("%d: %s, %s: %d, want %d", i, row.Text(u.a), row.Text(u.b), e, u.e)
		return
	}
	if u.e == api.OK {
		applied(t, s, u.a, u.ta)
		if u.tb == "" {
			u.tb = u.ta
		}
		applied(t, s, u.b, u.tb)
	}
}

func checkAll(t *testing.T, l []unification) {
	t.Helper()
	for i, u := range l {
		u.check(t, i)
	}
}

// TestP10_2_Variables: step 1.
func TestP10_2_Variables(t *testing.T) {
	wide := rec(8, is("a", v(1)), may("b", 7, ref(v(2))))
	checkAll(t, []unification{
		{a: v(1), b: v(1), ta: "'1"},
		{a: v(1), b: v(2), ta: "'2"},
		{a: v(2), b: v(1), ta: "'1"},
		{a: v(1), b: num, ta: "int"},
		{a: num, b: v(1), ta: "int"},
		{a: fun(v(1), v(3)), b: fun(v(2), v(1)), ta: "('2 -> '2)"},
		{a: fun(v(1), v(2)), b: fun(v(2), v(1)), ta: "('2 -> '2)"},
		{a: fun(v(1), v(2)), b: fun(v(2), v(3)), ta: "('3 -> '3)"},
		{a: fun(v(1), v(1)), b: fun(num, v(2)), ta: "(int -> int)"},
		{a: fun(v(1), v(2)), b: fun(ref(v(2)), num), ta: "((int ref) -> int)"},
		{a: v(9), b: wide, ta: "{a: '1, b?7: ('2 ref)| 8}"},
		{a: wide, b: v(9), ta: "{a: '1, b?7: ('2 ref)| 8}"},
		{a: v(1), b: ref(v(1)), e: api.ErrOccurs},
		{a: ref(v(1)), b: v(1), e: api.ErrOccurs},
		{a: v(1), b: wide, e: api.ErrOccurs},
		{a: wide, b: v(2), e: api.ErrOccurs},
		{a: v(1), b: fun(num, fun(num, array(v(1)))), e: api.ErrOccurs},
		{a: fun(v(1), v(2)), b: fun(ref(v(2)), ref(v(1))), e: api.ErrOccurs},
		{a: fun(v(1), fun(v(2), v(3))), b: fun(ref(v(2)), fun(ref(v(3)), ref(v(1)))), e: api.ErrOccurs},
		{a: fun(rec(0, may("a", 3, v(1))), v(1)), b: fun(rec(0), ref(rec(0, may("a", 3, v(1))))), ta: "({} -> ({} ref))"},
		{a: fun(v(1), rec(0, may("a", 3, v(1)))), b: fun(ref(rec(0, may("a", 3, v(1)))), rec(0)), e: api.ErrOccurs},
		{a: fun(rec(9), v(1)), b: fun(rec(0, is("a", v(1))), rec(9)), e: api.ErrOccurs},
	})
}

// TestP10_2_Kinds: step 2.
func TestP10_2_Kinds(t *testing.T) {
	kinds := []api.Type{num, truth, str, {Kind: api.TyUnit}, {Kind: api.TyExn}, fun(num, num), ref(num), array(num), rec(0), tags(0)}
	for i, a := range kinds {
		for k, b := range kinds {
			u := unification{a: a, b: b, ta: row.Text(a)}
			if i != k {
				u.e = api.ErrType
			}
			u.check(t, i)
		}
	}
	checkAll(t, []unification{
		{a: fun(v(1), ref(v(2))), b: fun(array(v(3)), v(4)), ta: "(('3 array) -> ('2 ref))"},
		{a: fun(num, num), b: fun(num, truth), e: api.ErrType},
		{a: fun(num, num), b: fun(truth, num), e: api.ErrType},
		{a: ref(num), b: ref(truth), e: api.ErrType},
		{a: array(num), b: array(truth), e: api.ErrType},
		{a: ref(array(v(1))), b: ref(ref(v(1))), e: api.ErrType},
		// The first error of the pairs, in order.
		{a: fun(v(1), num), b: fun(ref(v(1)), truth), e: api.ErrOccurs},
		{a: fun(num, v(1)), b: fun(truth, ref(v(1))), e: api.ErrType},
		{a: fun(v(1), v(1)), b: fun(num, truth), e: api.ErrType},
		{a: fun(fun(num, num), v(1)), b: fun(fun(num, truth), ref(v(1))), e: api.ErrType},
	})
}

// TestP10_2_Labels: step 3, the labels that both rows have, or only one.
func TestP10_2_Labels(t *testing.T) {
	checkAll(t, []unification{
		{a: rec(0), b: rec(0), ta: "{}"},
		{a: rec(0, is("a", v(1)), is("b", num)), b: rec(0, is("a", truth), is("b", v(2))), ta: "{a: bool, b: int}"},
		{a: rec(0, is("a", num)), b: rec(0, is("a", truth)), e: api.ErrType},
		{a: rec(1, is("a", num)), b: rec(2, not("a")), e: api.ErrType},
		{a: rec(1, not("a")), b: rec(2, is("a", num)), e: api.ErrType},
		{a: rec(1, not("a")), b: rec(2, not("a")), ta: "{a!| 2}"},
		// A presence that is a variable.
		{a: rec(0, may("a", 1, num)), b: rec(0, is("a", v(2))), ta: "{a: int}"},
		{a: rec(0, is("a", num)), b: rec(0, may("a", 1, v(2))), ta: "{a: int}"},
		{a: rec(2, may("a", 1, num)), b: rec(3, not("a")), ta: "{a!| 3}"},
		{a: rec(2, not("a")), b: rec(3, may("a", 1, num)), ta: "{a!| 3}"},
		{a: rec(0, may("a", 1, num)), b: rec(0, may("a", 2, v(3))), ta: "{a?2: int}"},
		{a: rec(0, may("a", 2, num)), b: rec(0, may("a", 1, v(3))), ta: "{a?1: int}"},
		{a: rec(0, may("a", 1, num)), b: rec(0, may("a", 1, v(3))), ta: "{a?1: int}"},
		{a: rec(0, may("a", 1, num)), b: rec(0, may("a", 1, truth)), e: api.ErrType},
		{a: rec(0, may("a", 1, num)), b: rec(0, may("a", 2, truth)), e: api.ErrType},
		{a: rec(0, may("a", 1, num)), b: rec(0, is("a", truth)), e: api.ErrType},
		{a: rec(0, is("a", num)), b: rec(0, may("a", 1, truth)), e: api.ErrType},
		// The types of what is absent are not unified.
		{a: rec(0, may("a", 1, num), may("b", 1, num)), b: rec(0, may("b", 2, truth)), ta: "{}"},
		{a: rec(0, may("b", 2, truth)), b: rec(0, may("a", 1, num), may("b", 1, num)), ta: "{}"},
		{a: rec(5, may("a", 1, num), may("b", 1, num)), b: rec(6, not("a"), may("b", 2, truth)), ta: "{a!, b!| 6}"},
		{a: rec(5, not("a"), may("b", 2, truth)), b: rec(6, may("a", 1, num), may("b", 1, num)), ta: "{a!, b!| 6}"},
		// A presence that has become known by a label before.
		{a: rec(0, may("a", 1, num), may("b", 1, num)), b: rec(0, is("a", num), may("b", 2, v(3))), ta: "{a: int, b: int}"},
		{a: rec(0, may("a", 1, num), may("b", 1, num)), b: rec(5, is("a", num), not("b")), e: api.ErrType},
		{a: rec(5, is("a", num), not("b")), b: rec(0, may("a", 1, num), may("b", 1, num)), e: api.ErrType},
		{a: rec(0, may("a", 1, num), may("b", 1, num)), b: rec(5, not("a"), is("b", num)), e: api.ErrType},
		{a: rec(0, may("a", 1, num), may("b", 1, num)), b: rec(0, is("a", num)), e: api.ErrType},
		{a: rec(0, may("a", 1, num), may("b", 1, num)), b: rec(0, is("b", num)), e: api.ErrType},
		{a: rec(0, may("a", 1, num), may("b", 2, num), may("c", 1, num)), b: rec(0, may("a", 2, num), may("b", 3, num), is("c", num)), ta: "{a: int, b: int, c: int}"},
		// Labels of one row, where the other one has no rest.
		{a: rec(0, is("a", num)), b: rec(0), e: api.ErrType},
		{a: rec(0), b: rec(0, is("a", num)), e: api.ErrType},
		{a: rec(0, may("a", 1, num)), b: rec(0), ta: "{}"},
		{a: rec(0), b: rec(0, may("a", 1, num)), ta: "{}"},
		{a: rec(2, not("a")), b: rec(0), ta: "{}"},
		{a: rec(0), b: rec(2, not("a")), ta: "{}"},
		{a: rec(2, may("a", 1, num)), b: rec(0, is("b", num)), ta: "{b: int}"},
		{a: rec(0, is("b", num)), b: rec(2, may("c", 1, num)), ta: "{b: int}"},
		{a: rec(2, is("a", num)), b: rec(0, is("b", num)), e: api.ErrType},
		{a: rec(0, is("b", num)), b: rec(2, is("c", num)), e: api.ErrType},
		// In increasing order of the labels, whichever row has them.
		{a: rec(0, is("a", v(1)), is("b", num)), b: rec(0, is("a", ref(v(1))), is("b", truth)), e: api.ErrOccurs},
		{a: rec(0, is("a", num), is("b", v(1))), b: rec(0, is("a", truth), is("b", ref(v(1)))), e: api.ErrType},
		{a: rec(0, is("a", v(1)), is("b", num)), b: rec(0, is("a", ref(v(1)))), e: api.ErrOccurs},
		{a: rec(0, is("a", num), is("b", v(1))), b: rec(0, is("b", ref(v(1)))), e: api.ErrType},
		{a: rec(0, is("a", v(1))), b: rec(0, is("a", ref(v(1))), is("b", num)), e: api.ErrOccurs},
		{a: rec(0, is("b", v(1))), b: rec(0, is("a", num), is("b", ref(v(1)))), e: api.ErrType},
		{a: rec(0, may("B", 1, num), is("a", v(2)), may("b", 1, num)), b: rec(0, is("a", ref(v(2))), is("b", num)), e: api.ErrOccurs},
		{a: rec(0, may("B", 1, num), may("b", 1, num)), b: rec(0, is("b", num)), e: api.ErrType},
		{a: tags(0, is("A", v(1)), is("B", num)), b: tags(0, is("A", truth), is("B", v(2))), ta: "[A: bool, B: int]"},
		{a: tags(0, is("A", num)), b: rec(0, is("A", num)), e: api.ErrType},
	})
}

// TestP10_2_Rests: step 3, the rests.
func TestP10_2_Rests(t *testing.T) {
	checkAll(t, []unification{
		{a: rec(1), b: rec(1), ta: "{| 1}"},
		{a: rec(1, is("a", v(2))), b: rec(1, is("a", num)), ta: "{a: int| 1}"},
		{a: rec(1), b: rec(2), ta: "{| 2}"},
		{a: rec(2), b: rec(1), ta: "{| 1}"},
		{a: rec(1, is("a", num)), b: rec(2, is("a", num)), ta: "{a: int| 2}"},
		{a: rec(1), b: rec(0), ta: "{}"},
		{a: rec(0), b: rec(1), ta: "{}"},
		{a: rec(1), b: rec(0, is("a", num), may("b", 2, v(3))), ta: "{a: int, b?2: '3}"},
		{a: rec(0, is("a", num), may("b", 2, v(3))), b: rec(1), ta: "{a: int, b?2: '3}"},
		{a: rec(1, is("b", num)), b: rec(0, is("a", num), is("b", num), is("c", num)), ta: "{a: int, b: int, c: int}"},
		{a: rec(1, is("a", num)), b: rec(3, is("b", v(2))), ta: "{a: int, b: '2| 4}"},
		{a: rec(3, is("b", v(2))), b: rec(1, is("a", num)), ta: "{a: int, b: '2| 4}"},
		{a: rec(1), b: rec(3, is("b", v(2))), ta: "{b: '2| 4}"},
		{a: rec(3, is("b", v(2))), b: rec(1), ta: "{b: '2| 4}"},
		{a: rec(1), b: rec(3, not("b"), may("c", 5, num)), ta: "{b!, c?5: int| 6}"},
		{a: rec(1, is("a", num), is("c", truth)), b: rec(7, is("b", str), is("c", v(2))), ta: "{a: int, b: string, c: bool| 8}"},
		{a: tags(1, is("A", num)), b: tags(3, is("B", v(2))), ta: "[A: int, B: '2| 4]"},
		{a: tags(1, is("A", num)), b: tags(0, is("A", v(3)), is("B", v(2))), ta: "[A: int, B: '2]"},
		// A row in its own row.
		{a: rec(1), b: rec(0, is("a", rec(1))), e: api.ErrOccurs},
		{a: rec(0, is("a", rec(1))), b: rec(1), e: api.ErrOccurs},
		{a: rec(1), b: rec(2, is("a", rec(1))), e: api.ErrOccurs},
		{a: rec(2, is("a", rec(1))), b: rec(1), e: api.ErrOccurs},
		{a: rec(1, is("a", num)), b: rec(2, is("b", rec(1, is("a", num)))), e: api.ErrOccurs},
		{a: rec(1, is("a", rec(2, is("b", num)))), b: rec(2, is("b", num)), e: api.ErrOccurs},
		{a: rec(1, is("a", rec(1, is("a", num)))), b: rec(2, is("b", rec(2, is("b", num)))), e: api.ErrOccurs},
		{a: fun(rec(1), rec(2)), b: fun(rec(0, is("a", rec(2))), rec(0, is("a", rec(1)))), e: api.ErrOccurs},
		{a: fun(rec(1), v(3)), b: fun(rec(0, is("a", v(3))), ref(rec(1))), e: api.ErrOccurs},
		{a: fun(v(3), rec(1)), b: fun(ref(rec(1)), rec(0, is("a", v(3)))), e: api.ErrOccurs},
		{a: fun(rec(0, may("a", 4, num)), rec(1)), b: fun(rec(0), rec(0, may("b", 4, rec(1)))), ta: "({} -> {})"},
		{a: tags(1, is("A", num)), b: tags(2, is("B", ref(tags(1, is("A", num))))), e: api.ErrOccurs},
		// A rest whose value has become known by the labels.
		{a: rec(1, is("a", rec(1, is("a", num)))), b: rec(0, is("a", rec(0, is("a", num), is("b", num))), is("b", num)), ta: "{a: {a: int, b: int}, b: int}"},
		{a: rec(0, is("a", rec(0, is("a", num), is("b", num))), is("b", num)), b: rec(1, is("a", rec(1, is("a", num)))), ta: "{a: {a: int, b: int}, b: int}"},
		{a: rec(1, is("a", rec(1, is("a", num)))), b: rec(0, is("a", rec(0, is("a", num), is("b", num)))), e: api.ErrType},
		{a: rec(0, is("a", rec(0, is("a", num), is("b", num)))), b: rec(1, is("a", rec(1, is("a", num)))), e: api.ErrType},
		{a: rec(1, is("a", rec(1, is("a", num)))), b: rec(0, is("a", rec(0, is("a", num), is("b", num))), is("b", truth)), e: api.ErrType},
		{a: rec(1, is("a", rec(1, is("a", num)))), b: rec(0, is("a", rec(0, is("a", num), is("b", num))), may("b", 2, v(3))), ta: "{a: {a: int, b: int}, b: int}"},
		{a: rec(1, is("a", rec(1, is("a", num)))), b: rec(0, is("a", rec(0, is("a", num), may("b", 4, num))), may("b", 2, v(3))), ta: "{a: {a: int, b?2: int}, b?2: int}"},
		{a: rec(1, is("a", rec(1, is("a", num)))), b: rec(0, is("a", rec(0, is("a", num))), may("b", 2, v(3))), ta: "{a: {a: int}}"},
		{a: rec(1, is("a", rec(1, is("a", num)))), b: rec(0, is("a", rec(0, is("a", num))), is("b", num)), e: api.ErrType},
		{a: rec(1, is("a", rec(1, is("a", num)))), b: rec(2, is("a", rec(2, is("a", num)))), ta: "{a: {a: int| 2}| 2}"},
		{a: rec(1, is("a", rec(2, is("a", num)))), b: rec(2, is("a", rec(1, is("a", num)))), ta: "{a: {a: int| 1}| 1}"},
		{a: rec(1, is("a", rec(1, is("a", num)))), b: rec(2, is("a", rec(3, is("b", num))), is("c", num)), ta: "{a: {a: int, b: int, c: int| 5}, b: int, c: int| 5}"},
		{a: rec(1, is("a", rec(1, is("a", num)))), b: rec(2, is("a", rec(3, is("a", num), is("b", num)))), ta: "{a: {a: int, b: int| 5}, b: int| 5}"},
		{a: rec(2, is("a", rec(3, is("a", num), is("b", num)))), b: rec(1, is("a", rec(1, is("a", num)))), ta: "{a: {a: int, b: int| 5}, b: int| 5}"},
		{a: rec(1, is("a", rec(1, is("a", num)))), b: rec(2, is("a", rec(3, is("a", num), is("b", num))), is("c", num)), ta: "{a: {a: int, b: int, c: int| 5}, b: int, c: int| 5}"},
		{a: rec(1, is("a", tags(4)), is("b", tags(4))), b: rec(2, is("a", tags(5, is("A", num))), is("b", tags(6, is("B", num)))), ta: "{a: [A: int, B: int| 8], b: [A: int, B: int| 8]| 2}"},
		{a: rec(1, is("a", rec(1, is("a", v(5)))), is("c", num)), b: rec(2, is("a", num)), e: api.ErrType},
		{a: rec(1, is("a", rec(0, is("a", num)))), b: rec(1, is("a", rec(1, is("a", num)))), ta: "{a: {a: int}}"},
		{a: rec(1, is("a", rec(0, is("a", num), is("b", v(2))))), b: rec(1, is("a", rec(1, is("a", num)))), ta: "{a: {a: int, b: '2}, b: '2}"},
		{a: rec(0, is("a", rec(2)), is("b", rec(2)), is("c", rec(2))), b: rec(0, is("a", rec(3)), is("b", rec(0, is("x", v(5)))), is("c", rec(4, is("y", num)))), e: api.ErrType},
		{a: rec(0, is("a", rec(2)), is("b", rec(2)), is("c", rec(2))), b: rec(0, is("a", rec(3)), is("b", rec(0, is("x", v(5)))), is("c", rec(4, may("y", 6, num)))), ta: "{a: {x: '5}, b: {x: '5}, c: {x: '5}}"},
	})
	// One variable after two rows with different labels can only come from types that are not valid together.
	for _, p := range [][2]api.Type{{rec(1, is("a", num)), rec(1)}, {rec(1), rec(1, not("a"))}, {rec(1, is("a", num)), rec(1, is("b", num))}} {
		if e := row.New().Unify(p[0], p[1]); e != api.ErrType {
			t.Errorf("%s, %s: %d", row.Text(p[0]), row.Text(p[1]), e)
		}
	}
}

// TestP10_2_Later: what became known earlier is known in later calls.
func TestP10_2_Later(t *testing.T) {
	earlier := [][2]api.Type{
		{v(1), fun(v(2), v(3))},
		{v(1), fun(num, v(4))},
		{rec(10, is("a", v(2))), rec(11, is("b", v(3)))},
		{rec(11, is("b", truth)), rec(0, may("a", 13, v(14)), may("b", 15, v(16)), may("c", 17, v(18)))},
		{rec(0, may("c", 17, v(5))), rec(0)},
	}
	s := solved(t, earlier...)
	applied(t, s, fun(v(1), rec(10, is("a", v(2)))), "((int -> '4) -> {a: int, b: '4})")
	applied(t, s, fun(v(14), fun(v(16), v(18))), "(int -> (bool -> '18))")
	for _, c := range []struct {
		a, b api.Type
		e    api.Errno
	}{
		{v(2), num, api.OK},
		{v(2), truth, api.ErrType},
		{v(3), ref(v(4)), api.ErrOccurs},
		{v(5), ref(v(5)), api.ErrOccurs},
		{rec(11, is("b", truth)), rec(0, is("b", truth)), api.ErrType},
		{rec(0, may("a", 13, num)), rec(0), api.ErrType},
		{rec(0, may("a", 17, num)), rec(0, is("a", num)), api.ErrType},
	} {
		if e := solved(t, earlier...).Unify(c.a, c.b); e != c.e {
			t.Errorf("%s, %s: %d, want %d", row.Text(c.a), row.Text(c.b), e, c.e)
		}
	}
}

// TestP10_2_Many: at the beginning, and whenever a value becomes known, of both types, and not of others.
func TestP10_2_Many(t *testing.T) {
	twice := func(n int) api.Type { return fun(v(n), v(n)) }
	text := row.Text
	checkAll(t, []unification{
		{a: sized(512), b: v(1), ta: text(sized(512))},
		{a: v(1), b: sized(512), ta: text(sized(512))},
		{a: sized(513), b: v(1), e: api.ErrMany},
		{a: v(1), b: sized(513), e: api.ErrMany},
		{a: sized(513), b: sized(513), e: api.ErrMany},
		// It comes before all else at the beginning.
		{a: fun(truth, sized(511)), b: num, e: api.ErrMany},
		{a: num, b: fun(truth, sized(511)), e: api.ErrMany},
		{a: v(1), b: fun(v(1), sized(511)), e: api.ErrMany},
		{a: v(1), b: fun(v(1), sized(510)), e: api.ErrOccurs},
		{a: num, b: fun(truth, sized(510)), e: api.ErrType},
		// By the value of a type variable: 255 parts twice and one more are 511, 256 are 513.
		{a: twice(1), b: fun(sized(255), v(2)), ta: text(fun(sized(255), sized(255)))},
		{a: twice(1), b: fun(sized(256), v(2)), e: api.ErrMany},
		{a: fun(sized(255), v(2)), b: twice(1), ta: text(fun(sized(255), sized(255)))},
		{a: fun(sized(256), v(2)), b: twice(1), e: api.ErrMany},
		// Before what comes next.
		{a: fun(twice(1), num), b: fun(fun(sized(256), v(2)), truth), e: api.ErrMany},
		{a: fun(num, twice(1)), b: fun(truth, fun(sized(256), v(2))), e: api.ErrType},
		{a: fun(twice(1), v(3)), b: fun(fun(sized(254), v(2)), ref(v(3))), e: api.ErrOccurs},
		// What does not belong to either type may be larger.
		{a: rec(0, may("a", 2, sized(300)), is("b", sized(205))), b: rec(0, is("b", v(1))), ta: text(rec(0, is("b", sized(205))))},
		{a: rec(0, is("a", v(1)), may("b", 2, fun(v(1), v(1)))), b: rec(0, is("a", sized(126))), ta: text(rec(0, is("a", sized(126))))},
		{a: rec(0, is("a", v(1)), may("b", 2, fun(v(1), v(1)))), b: rec(0, is("a", sized(170))), e: api.ErrMany},
		// By the value of a row variable.
		{a: rec(0, is("a", rec(1)), is("b", rec(1))), b: rec(0, is("a", rec(0, is("c", sized(252)))), is("b", rec(2))), ta: text(rec(0, is("a", rec(0, is("c", sized(252)))), is("b", rec(0, is("c", sized(252))))))},
		{a: rec(0, is("a", rec(1)), is("b", rec(1))), b: rec(0, is("a", rec(0, is("c", sized(253)))), is("b", rec(2))), e: api.ErrMany},
		{a: rec(1, is("a", sized(254))), b: rec(2, is("b", sized(255))), ta: text(rec(3, is("a", sized(254)), is("b", sized(255))))},
		{a: rec(1, is("a", sized(254))), b: rec(2, is("b", sized(256))), e: api.ErrMany},
		{a: rec(1, is("a", sized(254))), b: rec(0, is("a", v(2)), is("b", sized(255))), ta: text(rec(0, is("a", sized(254)), is("b", sized(255))))},
		// The first variable's value before the second one's, and each before the other's error.
		{a: rec(1, is("a", rec(2, is("b", num))), is("c", rec(1, is("a", num), is("c", num)))), b: rec(2, is("b", num)), e: api.ErrOccurs},
		{a: rec(1, is("a", rec(2, is("b", sized(130))))), b: rec(2, is("b", sized(380))), e: api.ErrMany},
		{a: rec(1, is("a", rec(2, is("b", sized(130))))), b: rec(2, is("b", sized(370))), e: api.ErrOccurs},
		{a: rec(2, is("b", sized(380))), b: rec(1, is("a", rec(2, is("b", sized(130))))), e: api.ErrOccurs},
		{a: rec(2, is("b", rec(1, is("a", num)))), b: rec(1, is("a", sized(400))), e: api.ErrOccurs},
		{a: rec(1, is("a", sized(400))), b: rec(2, is("b", rec(1, is("a", num)))), e: api.ErrOccurs},
	})
	// What other types become is not asked.
	s := solved(t, [2]api.Type{v(1), fun(v(2), v(2))}, [2]api.Type{v(2), sized(500)})
	if got := s.Size(v(1), 2000); got != 1001 {
		t.Errorf("%d", got)
	}
	for _, p := range [][2]api.Type{{v(1), v(3)}, {num, v(1)}, {truth, ref(v(2))}} {
		want := api.ErrMany
		if p[0].Kind == api.TyBool {
			want = api.ErrType
		}
		if e := s.Unify(p[0], p[1]); e != want {
			t.Errorf("%s, %s: %d", row.Text(p[0]), row.Text(p[1]), e)
		}
	}
	if e := s.Unify(ref(v(9)), ref(ref(v(2)))); e != api.OK {
		t.Errorf("%d", e)
	}
}

// TestP10_5_Equal: unified types are equal when resolved, and there is no other result of a later call with them.
func TestP10_5_Equal(t *testing.T) {
	a := fun(rec(1, is("a", v(2)), may("b", 3, v(4))), fun(v(2), tags(5, is("A", v(4)))))
	b := fun(rec(6, is("c", num), may("d", 7, v(8))), fun(ref(v(9)), tags(0, is("A", v(10)), may("B", 11, v(2)))))
	s := solved(t, [2]api.Type{a, b})
	want := "({a: ('9 ref), b?3: '10, c: int, d?7: '8| 12} -> (('9 ref) -> [A: '10, B?11: ('9 ref)]))"
	applied(t, s, a, want)
	applied(t, s, b, want)
	for range 3 {
		if e := s.Unify(b, a); e != api.OK {
			t.Fatal(e)
		}
		applied(t, s, a, want)
	}
	if n := s.Fresh(); n != 13 {
		t.Errorf("%d", n)
	}
}
