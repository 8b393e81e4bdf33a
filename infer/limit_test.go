package infer_test

import (
	"fmt"
	"slices"
	"testing"

	"marquetry/api"
	"marquetry/infer"
	"marquetry/row"
)

// here is the place of the term that a test is about.
const here = 77

func placed(x api.Term) api.Term {
	x.At = here
	return x
}

func use(v int) api.Term { return api.Term{Kind: api.TVar, V: v} }

func unit() api.Term { return api.Term{Kind: api.TUnit} }

func number(n int64) api.Term { return api.Term{Kind: api.TInt, N: n} }

func truth() api.Term { return api.Term{Kind: api.TBool, N: 1} }

func of(kind int, args ...api.Term) api.Term { return api.Term{Kind: kind, Args: args} }

func named(kind int, name string, args ...api.Term) api.Term {
	return api.Term{Kind: kind, S: name, Args: args}
}

func binding(kind, v int, args ...api.Term) api.Term {
	return api.Term{Kind: kind, V: v, Args: args}
}

func op(n int64, args ...api.Term) api.Term { return api.Term{Kind: api.TOp, N: n, Args: args} }

func tag(x api.Term) api.Term { return named(api.TTag, "A", x) }

// record returns a record of these values at the labels a, b and so on.
func record(args ...api.Term) api.Term {
	x := of(api.TRecord, args...)
	for i := range args {
		x.Labels = append(x.Labels, label(i))
	}
	return x
}

func label(i int) string { return fmt.Sprintf("%c%d", 'a'+i%26, i/26) }

// match returns a match with cases of these patterns, whose bodies are unit but for the last one.
func match(x, last api.Term, l ...api.TPat) api.Term {
	x = of(api.TMatch, x)
	for i, p := range l {
		body := unit()
		if i == len(l)-1 {
			body = last
		}
		x.Cases = append(x.Cases, api.Case{P: p, Body: body})
	}
	return x
}

// fields returns the pattern of a record with so many fields.
func fields(n int) api.TPat {
	p := api.TPat{Kind: api.PRecord}
	for i := range n {
		p.Labels = append(p.Labels, label(i))
		p.Args = append(p.Args, api.TPat{Kind: api.PAny})
	}
	return p
}

// sized returns a term whose type has so many parts.
func sized(parts int) api.Term {
	if parts < 3 {
		return []api.Term{number(1), op(api.OpRef, number(1))}[parts-1]
	}
	l := []api.Term{sized(2 - parts%2)}
	for range (parts - 3) / 2 {
		l = append(l, number(1))
	}
	return record(l...)
}

// then returns a term that is the second one after the first one.
func then(v int, first, second api.Term) api.Term { return binding(api.TLet, v, first, second) }

// alike returns a term in which two others must have the same type.
func alike(x, y api.Term) api.Term { return of(api.TIf, truth(), x, y) }

func raised() api.Term { return of(api.TRaise, api.Term{Kind: api.TExn, S: "A"}) }

// knowing returns a term in which variables are bound whose types are not known.
func knowing(x api.Term, vars ...int) api.Term {
	for _, v := range vars {
		x = match(raised(), x, api.TPat{Kind: api.PVar, V: v})
	}
	return x
}

// pair returns a record of a value twice.
func pair(x api.Term) api.Term { return record(x, x) }

// beside returns a record with a value of so many parts and variable 2.
func beside(n int) api.Term { return record(sized(n), use(2)) }

// grown returns a term in which the type of variable 1, which has two parts that are not known at first, has 257 + n parts.
func grown(n int, x api.Term) api.Term {
	x = then(12, alike(use(2), sized(n)), then(13, alike(use(3), sized(254)), x))
	return knowing(then(11, alike(use(1), record(use(2), use(3))), x), 1, 2, 3)
}

// wide returns a term in which variable 1 is a record with so many fields, and may have others.
func wide(n int, x api.Term) api.Term {
	return knowing(then(11, match(use(1), unit(), fields(n)), x), 1)
}

// TestP11_1_MaxType: how large the types of terms may be, and where the error is if they are larger.
func TestP11_1_MaxType(t *testing.T) {
	anything := api.TPat{Kind: api.PAny}
	for _, c := range []struct {
		name string
		most int
		make func(n int) api.Term
	}{
		{"reference", 511, func(n int) api.Term { return placed(op(api.OpRef, sized(n))) }},
		{"array", 511, func(n int) api.Term { return placed(op(api.OpArray, number(1), sized(n))) }},
		{"tag", 510, func(n int) api.Term { return placed(tag(sized(n))) }},
		{"record", 510, func(n int) api.Term { return placed(record(sized(n))) }},
		{"record of two", 509, func(n int) api.Term { return placed(record(sized(n-300), sized(300))) }},
		{"fields", 255, func(n int) api.Term { return placed(record(slices.Repeat([]api.Term{number(1)}, n)...)) }},
		{"with", 510, func(n int) api.Term { return placed(named(api.TWith, "a0", record(), sized(n))) }},
		{"function", 510, func(n int) api.Term { return placed(fun(1, sized(n))) }},
		{"body of a function", 510, func(n int) api.Term { return then(2, fun(1, then(3, placed(tag(sized(n))), unit())), unit()) }},
		{"argument", 510, func(n int) api.Term { return placed(of(api.TApp, fun(1, unit()), sized(n))) }},
		{"function and argument", 254, func(n int) api.Term { return placed(of(api.TApp, fun(1, tag(use(1))), sized(n))) }},
		{"pattern", 255, func(n int) api.Term { return placed(match(raised(), unit(), fields(n))) }},
		{"patterns", 255, func(n int) api.Term {
			p, q := fields(101), fields(n)
			q.Labels, q.Args = q.Labels[100:], q.Args[100:]
			return placed(match(raised(), unit(), p, q))
		}},
		{"first body", 510, func(n int) api.Term { return match(unit(), placed(tag(sized(n))), anything) }},
		{"second body", 254, func(n int) api.Term {
			x := match(unit(), placed(beside(n)), anything, anything)
			x.Cases[0].Body = pair(use(1))
			return knowing(x, 1, 2)
		}},
		{"branches", 254, func(n int) api.Term { return knowing(alike(pair(use(1)), placed(beside(n))), 1, 2) }},
		{"exception", 254, func(n int) api.Term {
			return knowing(binding(api.TTry, 3, pair(use(1)), placed(beside(n))), 1, 2)
		}},
		{"recursion", 169, func(n int) api.Term {
			body := then(3, of(api.TApp, use(1), sized(n)), pair(use(2)))
			return binding(api.TRec, 1, placed(fun(2, body)), unit())
		}},
		{"operand", 254, func(n int) api.Term {
			return knowing(op(api.OpAssign, op(api.OpRef, pair(use(1))), placed(beside(n))), 1, 2)
		}},
		{"variable", 255, func(n int) api.Term { return grown(n, placed(use(1))) }},
		{"field", 254, func(n int) api.Term { return wide(n, named(api.TField, "other", placed(use(1)))) }},
		{"field by with", 254, func(n int) api.Term { return wide(n, named(api.TWith, "other", placed(use(1)), unit())) }},
	} {
		if got, e, at := infer.Infer(c.make(c.most)); e != api.OK || at != 0 || !row.May(got) {
			t.Errorf("%s of %d: %d at %d", c.name, c.most, e, at)
		}
		if got := find(c.make(c.most + 1)); got != fails(api.ErrMany, here) {
			t.Errorf("%s of %d: %v", c.name, c.most+1, got)
		}
	}
}

// TestP11_1_Greatest: a type of the greatest size is returned whole.
func TestP11_1_Greatest(t *testing.T) {
	for i, x := range []api.Term{
		sized(512),
		then(1, sized(512), use(1)),
		grown(255, use(1)),
		match(unit(), sized(512), api.TPat{Kind: api.PAny}),
		then(1, fun(2, sized(510)), use(1)),
		then(1, fun(2, record(sized(506), use(2))), use(1)),
	} {
		if got, e, at := infer.Infer(x); e != api.OK || at != 0 || !row.May(got) || row.Size(got, 1000) != 512 {
			t.Errorf("%d: %d at %d, %d parts", i, e, at, row.Size(got, 1000))
		}
	}
}

// TestP11_1_Grown: a general type may grow after it was generalized, by variables that are not general.
func TestP11_1_Grown(t *testing.T) {
	grow := func(n int) api.Term {
		x := then(12, alike(use(2), sized(n)), then(13, alike(use(3), sized(254)), placed(use(9))))
		x = then(9, fun(8, use(1)), x)
		return knowing(then(11, alike(use(1), record(use(2), use(3))), x), 1, 2, 3)
	}
	if got, e, at := infer.Infer(grow(253)); e != api.OK || at != 0 || row.Size(got, 1000) != 512 {
		t.Errorf("%d at %d, %d parts", e, at, row.Size(got, 1000))
	}
	if got := find(grow(254)); got != fails(api.ErrMany, here) {
		t.Errorf("%v", got)
	}
}

// TestP11_1_Sides: where two types are made equal, the one that is named first is the first one. If both get a field by that,
// and it would make the first one too large and be within itself in the second one, the former turns out first.
func TestP11_1_Sides(t *testing.T) {
	// The record at field a0 of variable 1 is variable 2, so the one has 4 + 300 parts, the other one 2 + 300.
	both := func(x api.Term) api.Term {
		anything := api.TPat{Kind: api.PVar, V: 11}
		large := match(use(2), alike(use(11), sized(300)), api.TPat{Kind: api.PRecord, Labels: []string{"b0"}, Args: []api.TPat{anything}})
		within := alike(named(api.TField, "a0", use(1)), use(2))
		return knowing(then(12, large, then(13, within, then(14, x, unit()))), 1, 2)
	}
	takes := func(x api.Term) api.Term { return fun(21, then(22, alike(use(21), x), unit())) }
	anything := api.TPat{Kind: api.PAny}
	for name, make := range map[string]func(first, second api.Term) api.Term{
		"application": func(first, second api.Term) api.Term { return placed(of(api.TApp, takes(first), second)) },
		"recursion": func(first, second api.Term) api.Term {
			f := takes(second)
			f.Args[0].Args[0] = then(23, of(api.TApp, use(31), first), f.Args[0].Args[0])
			return binding(api.TRec, 31, placed(f), unit())
		},
		"branches": func(first, second api.Term) api.Term { return alike(first, placed(second)) },
		"bodies": func(first, second api.Term) api.Term {
			x := match(unit(), placed(second), anything, anything)
			x.Cases[0].Body = first
			return x
		},
		"exception":  func(first, second api.Term) api.Term { return binding(api.TTry, 31, first, placed(second)) },
		"assignment": func(first, second api.Term) api.Term { return op(api.OpAssign, op(api.OpRef, second), placed(first)) },
		"element": func(first, second api.Term) api.Term {
			return op(api.OpSet, op(api.OpArray, number(1), second), number(0), placed(first))
		},
	} {
		if got := find(both(make(use(1), use(2)))); got != fails(api.ErrMany, here) {
			t.Errorf("%s: %v", name, got)
		}
		if got := find(both(make(use(2), use(1)))); got != fails(api.ErrOccurs, here) {
			t.Errorf("%s, the other way round: %v", name, got)
		}
	}
}

// TestP11_1_EachTerm: the size is looked at for each term, wherever it is, and as soon as its type has been determined.
func TestP11_1_EachTerm(t *testing.T) {
	wrong := op(api.OpAdd, unit(), unit())
	anything := api.TPat{Kind: api.PAny}
	large := placed(tag(sized(511)))
	for i, x := range []api.Term{
		large,
		fun(1, large),
		fun(1, then(2, large, wrong)),
		of(api.TApp, large, wrong),
		of(api.TApp, fun(1, unit()), large),
		then(1, large, wrong),
		then(1, unit(), large),
		binding(api.TRec, 1, fun(2, large), wrong),
		binding(api.TRec, 1, fun(2, unit()), large),
		of(api.TIf, large, wrong, wrong),
		of(api.TIf, truth(), large, wrong),
		of(api.TIf, truth(), unit(), large),
		record(large, wrong),
		record(unit(), large, wrong),
		named(api.TWith, "a0", large, wrong),
		named(api.TWith, "a0", unit(), large),
		named(api.TField, "a0", large),
		tag(large),
		match(large, wrong, anything),
		match(unit(), large, anything),
		match(unit(), large, anything, anything),
		match(unit(), large, anything, api.TPat{Kind: api.PUnit}),
		binding(api.TTry, 1, large, wrong),
		binding(api.TTry, 1, unit(), large),
		of(api.TRaise, large),
		op(api.OpAdd, large, wrong),
		op(api.OpAdd, number(1), large),
		op(api.OpSet, op(api.OpArray, number(1), number(1)), number(1), large),
	} {
		if got := find(x); got != fails(api.ErrMany, here) {
			t.Errorf("%d: %v", i, got)
		}
	}
}

// TestP11_1_Invalid: a term that is not valid has neither a type nor a place.
func TestP11_1_Invalid(t *testing.T) {
	deep := unit()
	for range 600 {
		deep = tag(deep)
	}
	wide := record(slices.Repeat([]api.Term{unit()}, api.MaxTerm)...)
	for i, x := range []api.Term{
		{},
		placed(use(5)),
		{Kind: -1, At: 1},
		{Kind: api.TOp + 1, At: 1},
		{Kind: api.TInt, N: 1 << 62, At: 1},
		{Kind: api.TUnit, N: 1, At: 1},
		{Kind: api.TBool, N: 2},
		{Kind: api.TExn},
		fun(-1, unit()),
		fun(1, use(2)),
		fun(1, fun(1, use(1))),
		then(1, fun(1, unit()), unit()),
		then(1, use(1), unit()),
		of(api.TApp, fun(1, unit())),
		of(api.TApp, fun(1, use(1)), use(1)),
		binding(api.TRec, 1, unit(), unit()),
		of(api.TMatch, unit()),
		match(unit(), use(1), api.TPat{Kind: api.PVar, V: 1}, api.TPat{Kind: api.PAny}, api.TPat{Kind: api.PAny}),
		match(unit(), unit(), api.TPat{Kind: api.PVar, V: 1}, api.TPat{Kind: api.PVar, V: 1}),
		match(unit(), unit(), api.TPat{}),
		match(unit(), unit(), api.TPat{Kind: api.PTag, S: "A"}),
		{Kind: api.TRecord, Labels: []string{"a", "a"}, Args: []api.Term{unit(), unit()}},
		{Kind: api.TRecord, Labels: []string{"a"}, Args: []api.Term{unit(), unit()}},
		named(api.TWith, "", record(), unit()),
		named(api.TField, "", record()),
		op(0, unit()),
		op(api.OpPutc+1, unit()),
		op(api.OpAdd, unit()),
		op(api.OpNeg, unit(), unit()),
		of(api.TApp, op(api.OpAdd, unit(), placed(unit())), use(1)),
		deep,
		wide,
	} {
		if got := find(x); got != fails(api.ErrForm, 0) {
			t.Errorf("%d: %v", i, got)
		}
	}
}
