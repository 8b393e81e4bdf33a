package anf_test

import (
	"fmt"
	"math"
	"reflect"
	"runtime/debug"
	"slices"
	"strings"
	"sync"
	"testing"
	"unsafe"

	"marquetry/anf"
	"marquetry/api"
	"marquetry/infer"
	"marquetry/match"
	"marquetry/resolve"
)

// fails fails if a term has another error, or anything beside it.
func fails(t *testing.T, want api.Errno, what string, x api.Term) {
	t.Helper()
	if p, e := anf.Of(x); e != want || !reflect.DeepEqual(p, api.Prog{}) {
		t.Errorf("%s: %d, not %d", what, e, want)
	}
}

// nested returns a term within which another one is so deep.
func nested(depth int, x api.Term, wrap func(i int, x api.Term) api.Term) api.Term {
	for i := range depth {
		x = wrap(i, x)
	}
	return x
}

func tagged(_ int, x api.Term) api.Term { return named(api.TTag, "A", x) }

// TestP13_2_Form: terms that are not valid.
func TestP13_2_Form(t *testing.T) {
	loop := tagged(0, unit())
	loop.Args[0] = loop
	many := matching(use(5), slices.Repeat([]api.Case{arm(anything(), unit())}, 65)...)
	for i, x := range []api.Term{
		{},
		{Kind: -1},
		{Kind: api.TOp + 1},
		use(0),
		number(1 << 62),
		{Kind: api.TUnit, N: 1},
		fun(0, use(1)),
		fun(-1, unit()),
		fun(1<<20+1, unit()),
		fun(1, fun(1, unit())),
		of(api.TApp, fun(1, unit())),
		of(api.TApp, fun(1, use(1)), use(1)),
		binding(api.TRec, 1, unit(), unit()),
		binding(api.TLet, 1, use(1), unit()),
		of(api.TMatch, unit()),
		matching(unit(), arm(api.TPat{}, unit())),
		matching(unit(), arm(bindsTo(1), unit()), arm(anything(), use(1))),
		named(api.TField, "", of(api.TRecord)),
		named(api.TString, strings.Repeat("a", api.MaxText+1)),
		fields([]string{"a", "a"}, unit(), unit()),
		calc(0, unit()),
		calc(api.OpAdd, unit()),
		calc(api.OpPutc+1, unit()),
		binding(api.TLet, 1, of(api.TRaise, named(api.TExn, "A")), use(2)),
		nested(600, unit(), tagged),
		fields(make([]string, 17000), make([]api.Term, 17000)...),
		many, // This is asked for first.
		loop,
	} {
		fails(t, api.ErrForm, fmt.Sprint(i), x)
	}
}

// cases returns so many cases that differ.
func cases(n int) []api.Case {
	var l []api.Case
	for i := range n {
		l = append(l, arm(equals(int64(i)), number(int64(i))))
	}
	return l
}

// tower returns a pattern of so many parts.
func tower(parts int) api.TPat {
	p := anything()
	for range parts - 1 {
		p = tags("A", p)
	}
	return p
}

// doubling returns cases whose tree has more than twice as many parts with each one more.
func doubling(n int) []api.Case {
	var l []api.Case
	for i := range n {
		l = append(l, arm(has([]string{label(2 * i), label(2*i + 1)}, equals(1), equals(1)), number(int64(i))))
	}
	return l
}

func compiled(l []api.Case) (api.Tree, api.Errno) {
	var ps []api.TPat
	for _, c := range l {
		ps = append(ps, c.P)
	}
	return match.Compile(ps)
}

// TestP13_2_Many: a match that has no tree, wherever it is.
func TestP13_2_Many(t *testing.T) {
	if _, e := compiled(doubling(8)); e != api.OK {
		t.Fatal(e)
	}
	if _, e := compiled(doubling(9)); e != api.ErrMany {
		t.Fatal(e)
	}
	for i, c := range []struct {
		most, more []api.Case
	}{
		{cases(64), cases(65)},
		{[]api.Case{arm(tower(256), unit())}, []api.Case{arm(tower(257), unit())}},
		{[]api.Case{arm(anything(), unit()), arm(tower(256), unit())}, []api.Case{arm(anything(), unit()), arm(tower(257), unit())}},
		{doubling(8), doubling(9)},
	} {
		x := of(api.TRaise, named(api.TExn, "A"))
		for j, wrap := range []func(x api.Term) api.Term{
			func(x api.Term) api.Term { return x },
			func(x api.Term) api.Term { return fun(1, x) },
			func(x api.Term) api.Term { return calc(api.OpNeg, x) },
			func(x api.Term) api.Term { return matching(unit(), arm(anything(), x)) },
			func(x api.Term) api.Term { return matching(x, arm(anything(), unit())) },
			func(x api.Term) api.Term { return binding(api.TTry, 1, unit(), x) },
			func(x api.Term) api.Term { return binding(api.TTry, 1, x, unit()) },
			// Here nothing comes of it.
			func(x api.Term) api.Term { return binding(api.TLet, 1, of(api.TRaise, unit()), x) },
			func(x api.Term) api.Term { return calc(api.OpAdd, of(api.TRaise, unit()), x) },
			func(x api.Term) api.Term { return of(api.TRaise, of(api.TRaise, x)) },
			func(x api.Term) api.Term { return matching(unit(), arm(anything(), unit()), arm(anything(), x)) },
			func(x api.Term) api.Term { return binding(api.TLet, 1, fun(2, x), unit()) },
			func(x api.Term) api.Term { return of(api.TIf, of(api.TRaise, unit()), x, unit()) },
		} {
			what := fmt.Sprint(i, " in ", j)
			composed(t, wrap(matching(x, c.most...)))
			fails(t, api.ErrMany, what, wrap(matching(x, c.more...)))
		}
	}
}

// treeParts returns how many parts the trees of a term's matches have together.
func treeParts(x api.Term) int {
	n := 0
	if x.Kind == api.TMatch {
		t, _ := compiled(x.Cases)
		n = countTree(t)
	}
	for _, a := range x.Args {
		n += treeParts(a)
	}
	for _, c := range x.Cases {
		n += treeParts(c.Body)
	}
	return n
}

func countTree(t api.Tree) int {
	n := 1
	for _, b := range t.Branches {
		n += countTree(b.T)
	}
	for _, e := range t.Else {
		n += countTree(e)
	}
	return n
}

// A family makes terms for which a program is promised, but which are as large as may be for that. Variables are numbered as they
// are bound.
type family struct{ last int }

func (f *family) bind() int {
	f.last++
	return f.last
}

// any returns a term of any type.
func (f *family) any() api.Term {
	return of(api.TApp, fun(f.bind(), of(api.TRaise, named(api.TExn, "Foo"))), unit())
}

// with returns a term within a match that binds so many variables.
func (f *family) with(n int, body func(vars []int) api.Term) api.Term {
	p := has(nil)
	var vars []int
	r := of(api.TRecord)
	for i := range n {
		vars = append(vars, f.bind())
		p.Labels, p.Args = append(p.Labels, label(i)), append(p.Args, bindsTo(vars[i]))
		r.Labels, r.Args = append(r.Labels, label(i)), append(r.Args, calc(api.OpGetc, unit()))
	}
	return matching(f.any(), arm(p, body(vars)))
}

// all returns a number, before which records of variables are made.
func (f *family) all(vars []int) api.Term {
	x := number(0)
	for l := range slices.Chunk(vars, 200) {
		r := of(api.TRecord)
		for i, v := range l {
			r.Labels, r.Args = append(r.Labels, label(i)), append(r.Args, use(v))
		}
		x = binding(api.TLet, f.bind(), r, x)
	}
	return x
}

// chain returns functions that are within one another, whose type is not too large, around a term that is a number.
func (f *family) chain(n int, x api.Term) api.Term {
	for i := range n {
		x = fun(f.bind(), x)
		if i%200 == 199 {
			x = binding(api.TLet, f.bind(), x, number(0))
		}
	}
	return x
}

func (f *family) tries(n int, x api.Term) api.Term {
	for range n {
		x = binding(api.TTry, f.bind(), x, number(1))
	}
	return x
}

// repeating returns a match of so many cases, whose tree tests two places in each branch that are so deep.
func (f *family) repeating(rows, depth int) api.Term {
	x := matching(f.any())
	for i := range rows {
		x.Cases = append(x.Cases, arm(has([]string{"k", "j"}, equals(int64(i)), equals(1)), number(1)))
	}
	for _, l := range []string{"t", "u"} {
		p := equals(5)
		for range depth {
			p = has([]string{"a"}, p)
		}
		x.Cases = append(x.Cases, arm(has([]string{l}, tags("A", p)), number(1)))
	}
	return x
}

// spread returns a match whose tree tests a place that is so deep in rows + 1 times columns + 1 branches.
func (f *family) spread(rows, columns, depth int) api.Term {
	x := matching(f.any())
	for i := range rows {
		x.Cases = append(x.Cases, arm(has([]string{"k", "j"}, equals(int64(i)), equals(1)), number(1)))
	}
	for i := range columns {
		x.Cases = append(x.Cases, arm(has([]string{"m", "n"}, equals(int64(i)), equals(1)), number(1)))
	}
	p := equals(5)
	for range depth {
		p = has([]string{"a"}, p)
	}
	x.Cases = append(x.Cases, arm(has([]string{"t"}, tags("A", p)), number(1)))
	return x
}

// largest returns what make returns for the greatest n for which that has 1000 parts at most, none too deep.
func largest(make func(n int) api.Term) api.Term {
	least, most := 0, 1000
	for least < most {
		if n := (least + most + 1) / 2; parts(make(n)) <= 1000 && resolve.May(make(n)) {
			least = n
		} else {
			most = n - 1
		}
	}
	return make(least)
}

// families returns terms that are as large as may be, of many kinds.
func families() map[string]func(n int) api.Term {
	l := map[string]func(n int) api.Term{
		"a sum of all parameters": func(n int) api.Term {
			x := use(1)
			for i := 2; i <= min(n, 255); i++ {
				x = calc(api.OpAdd, x, use(i))
			}
			for i := min(n, 255); i > 0; i-- {
				x = fun(i, x)
			}
			return x
		},
		"recursive functions": func(n int) api.Term {
			f := &family{last: 2000}
			var vars []int
			for i := range n {
				vars = append(vars, 2*i+1, 2*i+2)
			}
			x := f.all(vars)
			for i := range n {
				x = binding(api.TRec, 2*i+1, fun(2*i+2, x), number(0))
			}
			return x
		},
		"handlers": func(n int) api.Term {
			f := &family{}
			return f.with(min(n, 30), func(vars []int) api.Term {
				x := f.all(vars)
				for i := range n {
					x = binding(api.TTry, f.bind(), number(0), binding(api.TLet, f.bind(), use(vars[i%len(vars)]), x))
				}
				return x
			})
		},
		"writing": func(n int) api.Term {
			f := &family{}
			return nested(n, unit(), func(_ int, x api.Term) api.Term {
				return binding(api.TLet, f.bind(), calc(api.OpPutc, number(65)), x)
			})
		},
		"conditions": func(n int) api.Term {
			return nested(n, truth(1), func(_ int, x api.Term) api.Term { return of(api.TIf, x, truth(0), truth(1)) })
		},
		"conditions of calls": func(n int) api.Term {
			f := &family{}
			return nested(n, truth(1), func(_ int, x api.Term) api.Term {
				return of(api.TApp, fun(f.bind(), truth(0)), of(api.TIf, x, truth(0), truth(1)))
			})
		},
		"a wide record": func(n int) api.Term {
			x := of(api.TRecord)
			for i := range min(n, 254) {
				x.Labels, x.Args = append(x.Labels, label(i)), append(x.Args, calc(api.OpMul, calc(api.OpNeg, number(1)), number(2)))
			}
			return x
		},
		"cases": func(n int) api.Term {
			f := &family{}
			return nested(n/60, unit(), func(_ int, x api.Term) api.Term {
				return binding(api.TLet, f.bind(), matching(f.any(), cases(60)...), x)
			})
		},
		"strings": func(n int) api.Term {
			f := &family{}
			return nested(n/60, unit(), func(i int, x api.Term) api.Term {
				m := matching(f.any())
				for j := range 60 {
					m.Cases = append(m.Cases, arm(api.TPat{Kind: api.PString, S: label(60*i + j)}, number(1)))
				}
				return binding(api.TLet, f.bind(), m, x)
			})
		},
		"doubled cases": func(n int) api.Term {
			f := &family{}
			x := binding(api.TLet, f.bind(), matching(f.any(), doubling(6)...), matching(f.any(), doubling(7)...))
			return f.chain(min(n, 550), x)
		},
		"a deep place in many branches": func(n int) api.Term {
			f := &family{}
			return f.with(15, func(vars []int) api.Term {
				return binding(api.TLet, f.bind(), f.spread(10, 11, 235), f.chain(n, f.all(vars)))
			})
		},
		"a deep pattern": func(n int) api.Term {
			f := &family{}
			p := bindsTo(f.bind())
			for range min(n, 240) {
				p = has([]string{"a"}, p)
			}
			return matching(f.any(), arm(p, use(1)))
		},
	}
	for _, vars := range []int{1, 15, 16, 17, 31, 32, 47, 63, 95, 143, 200, 245} {
		l[fmt.Sprint(vars, " variables in one chain")] = func(n int) api.Term {
			f := &family{}
			return f.with(vars, func(vars []int) api.Term { return f.chain(n, f.all(vars)) })
		}
		l[fmt.Sprint(vars, " variables in two chains")] = func(n int) api.Term {
			f := &family{}
			return f.with(vars, func(vars []int) api.Term {
				return binding(api.TLet, f.bind(), f.chain(n, f.all(vars)), f.chain(n, f.all(vars)))
			})
		}
		l[fmt.Sprint(vars, " variables in tries")] = func(n int) api.Term {
			f := &family{}
			return f.with(vars, func(vars []int) api.Term { return f.tries(n, f.all(vars)) })
		}
		// A term of this size captures most where it captures one by one.
		l[fmt.Sprint(vars, " variables in a small chain")] = func(n int) api.Term {
			f := &family{}
			return f.with(vars, func(vars []int) api.Term { return f.chain(min(n, 390-2*len(vars)), f.all(vars)) })
		}
	}
	for _, depth := range []int{1, 13, 14, 15, 16, 60, 200} {
		for _, rows := range []int{10, 60} {
			l[fmt.Sprint(rows, " cases, ", depth, " deep")] = func(n int) api.Term {
				f := &family{}
				return f.with(15, func(vars []int) api.Term {
					return binding(api.TLet, f.bind(), f.repeating(rows, depth), f.chain(n, f.all(vars)))
				})
			}
		}
	}
	return l
}

// TestP13_2_Families: terms for which a program is promised.
func TestP13_2_Families(t *testing.T) {
	t.Parallel()
	for what, make := range families() {
		x := largest(make)
		if n := treeParts(x); parts(x) > 1000 || n > 1000 {
			t.Errorf("%s: %d parts, %d of trees", what, parts(x), n)
		}
		if _, e, at := infer.Infer(x); e != api.OK {
			if e != api.ErrMany || !strings.Contains(what, "200 deep") {
				t.Errorf("%s: %d at %d", what, e, at)
			}
			continue
		}
		p, e := anf.Of(x)
		if e != api.OK || !valid(p) {
			t.Errorf("%s: %d", what, e)
		}
	}
}

// TestP13_2_Larger: terms for which no program is promised have one that is valid, or the error. A stack like that for which Go
// stops is far away.
func TestP13_2_Larger(t *testing.T) {
	defer debug.SetMaxStack(debug.SetMaxStack(256 << 20))
	tally := map[api.Errno]int{}
	try := func(what string, x api.Term) {
		t.Helper()
		if !resolve.May(x) {
			t.Fatalf("%s is not valid", what)
		}
		p, e := anf.Of(x)
		tally[e]++
		if e == api.OK && !valid(p) || e != api.OK && (e != api.ErrMany || !reflect.DeepEqual(p, api.Prog{})) {
			t.Errorf("%s: %d", what, e)
		}
	}
	for _, vars := range []int{10, 100, 1000, 5000} {
		f := &family{}
		try(fmt.Sprint("a chain of ", vars), f.with(vars, func(vars []int) api.Term { return f.chain(560, f.all(vars)) }))
		f = &family{}
		try(fmt.Sprint("tries of ", vars), f.with(vars, func(vars []int) api.Term { return f.tries(560, f.all(vars)) }))
	}
	wide := func(n int, x func(i int) api.Term) api.Term {
		r := of(api.TRecord)
		for i := range n {
			r.Labels, r.Args = append(r.Labels, label(i)), append(r.Args, x(i))
		}
		return r
	}
	try("many parts", wide(8191, func(int) api.Term { return calc(api.OpNeg, number(1)) }))
	try("many atoms", wide(16383, func(i int) api.Term { return number(int64(i)) }))
	try("many functions", wide(4095, func(i int) api.Term { return fun(i, unit()) }))
	try("too many functions", wide(4096, func(i int) api.Term { return fun(i, unit()) }))
	if tally[api.ErrMany] == 0 {
		t.Errorf("%v", tally)
	}
	try("many tries", wide(4000, func(i int) api.Term { return binding(api.TTry, i, unit(), unit()) }))
	try("many conditions", wide(4000, func(i int) api.Term { return of(api.TIf, truth(1), unit(), unit()) }))
	try("many strings", wide(8000, func(i int) api.Term { return named(api.TString, label(i)) }))
	try("many calls", wide(5000, func(i int) api.Term { return of(api.TApp, unit(), unit()) }))
	try("many matches", wide(480, func(i int) api.Term { return matching(unit(), doubling(8)...) }))
	try("many cases", wide(100, func(i int) api.Term { return matching(unit(), cases(64)...) }))
	try("deep patterns", wide(60, func(i int) api.Term { return matching(unit(), arm(tower(256), unit())) }))
	f := &family{}
	try("a long sequence of records", nested(590, unit(), func(i int, x api.Term) api.Term {
		return binding(api.TLet, f.bind(), wide(25, func(int) api.Term { return number(1) }), x)
	}))
	if tally[api.OK] == 0 {
		t.Errorf("%v", tally)
	}
}

// TestP13_2_Names: the names and texts of a program, whatever the term's are.
func TestP13_2_Names(t *testing.T) {
	x := matching(fields([]string{"z", "a", "1", "\xff"}, named(api.TTag, "z", named(api.TString, "t")), named(api.TExn, "\x00"), number(1), unit()),
		arm(has([]string{"z", "q"}, tags("y", api.TPat{Kind: api.PString, S: "u"}), anything()), named(api.TField, "f", named(api.TWith, "w", unit(), unit()))),
		arm(has([]string{"a"}, api.TPat{Kind: api.PExn, S: "Zed"}), named(api.TString, "t")),
		arm(has([]string{"a"}, api.TPat{Kind: api.PExn, S: "\x00"}), named(api.TString, "t\x00")))
	p := composed(t, x)
	if got := anf.Run(p, 0, "", 999); got != done("", `"t\x00"`) {
		t.Errorf("%v", got)
	}
	for _, l := range [][]string{p.Labels, p.Tags, p.Exns} {
		if !increasing(l) {
			t.Errorf("%q", l)
		}
	}
	for _, name := range []string{"\x00", "Zed", "Bounds", "Divide", "Match", "Size"} {
		if !slices.Contains(p.Exns, name) {
			t.Errorf("%q: %q", name, p.Exns)
		}
	}
	long := strings.Repeat("L", 1<<16)
	x = named(api.TField, long, fields([]string{long, "a"}, named(api.TTag, long, named(api.TExn, long)), unit()))
	x = matching(x, arm(tags(long, bindsTo(1)), of(api.TRaise, use(1))))
	if got := anf.Run(composed(t, x), 0, "", 999); got != done("", "raise "+long) {
		t.Errorf("%.100v", got)
	}
	edges := calc(api.OpAdd, number(1<<62-1), number(-1<<62))
	if got := anf.Run(composed(t, edges), api.TyInt, "", 999); got != done("", "-1") {
		t.Errorf("%v", got)
	}
	variables := binding(api.TLet, 1<<20, calc(api.OpGetc, unit()), fun(0, use(1<<20)))
	if got := anf.Run(composed(t, of(api.TApp, variables, unit())), api.TyInt, "A", 999); got != done("", "65") {
		t.Errorf("%v", got)
	}
}

// A memory is what has been seen of some values: where their strings are, and where their lists begin.
type memory struct {
	strings, lists map[unsafe.Pointer]bool
}

func newMemory() memory { return memory{map[unsafe.Pointer]bool{}, map[unsafe.Pointer]bool{}} }

// add fails if a value shares memory with those in other, or has a list twice.
func (m memory) add(t *testing.T, x reflect.Value, other memory) {
	t.Helper()
	switch x.Kind() {
	case reflect.String:
		if s := x.String(); s != "" {
			p := unsafe.Pointer(unsafe.StringData(s))
			if other.strings[p] {
				t.Fatal("a string is shared")
			}
			m.strings[p] = true
		}
	case reflect.Slice:
		if x.Cap() > 0 {
			p := x.UnsafePointer()
			if other.lists[p] || m.lists[p] {
				t.Fatal("a list is shared")
			}
			m.lists[p] = true
		}
		for i := range x.Len() {
			m.add(t, x.Index(i), other)
		}
	case reflect.Struct:
		for i := range x.NumField() {
			m.add(t, x.Field(i), other)
		}
	}
}

// samplesOf returns terms of all kinds.
func samplesOf(m *termMaker) []api.Term {
	var l []api.Term
	for range 60 {
		l = append(l, m.random(5), m.match(m.shape(1), m.shape(3), 2), m.crowded(30, 3))
		m.vars = nil
	}
	return slices.DeleteFunc(l, func(x api.Term) bool { return !resolve.May(x) || parts(x) > 2000 })
}

// TestP1_OwnMemory: no string and no list of a result is one of the argument's or of another result's, nor is a list there twice.
func TestP1_OwnMemory(t *testing.T) {
	long := func(s string) string { return strings.Repeat(s, 30) }
	exn := named(api.TExn, long("E"))
	x := matching(fields([]string{long("a"), long("b")}, named(api.TTag, long("T"), named(api.TString, long("s"))), exn),
		arm(has([]string{long("b")}, api.TPat{Kind: api.PExn, S: long("E")}), of(api.TRaise, exn)),
		arm(has([]string{long("a")}, tags(long("T"), bindsTo(1))), named(api.TWith, long("c"), of(api.TRecord), unit())))
	l := append(samplesOf(&termMaker{maker: newMaker(5), deep: true}), x)
	for _, x := range l {
		before := fmt.Sprintf("%+v", x)
		passed, first, second := newMemory(), newMemory(), newMemory()
		passed.add(t, reflect.ValueOf(x), newMemory())
		p := composed(t, x)
		first.add(t, reflect.ValueOf(p), passed)
		q := composed(t, x)
		second.add(t, reflect.ValueOf(q), passed)
		newMemory().add(t, reflect.ValueOf(q), first)
		if !reflect.DeepEqual(p, q) || fmt.Sprintf("%+v", x) != before {
			t.Errorf("%s: another result, or changed", before)
		}
	}
	p := composed(t, x)
	outcomes := newMemory()
	outcomes.add(t, reflect.ValueOf(p), newMemory())
	for range 2 {
		o := anf.Run(p, api.TyExn, long("i"), plenty)
		newMemory().add(t, reflect.ValueOf(o), outcomes)
		outcomes.add(t, reflect.ValueOf(o), newMemory())
		if o != done("", "raise "+long("E")) {
			t.Errorf("%v", o)
		}
	}
	name := program(ret(num(2)))
	name.Exns[2] = long("E")
	passed := newMemory()
	passed.add(t, reflect.ValueOf(name), newMemory())
	newMemory().add(t, reflect.ValueOf(anf.Run(name, api.TyExn, "", plenty)), passed)
	// So what was passed may be changed afterwards.
	want := fmt.Sprintf("%+v", p)
	x.Args[0].Labels[0], x.Cases[0].P.Labels[0], x.Cases[1].P.Args[0].S, x.Cases[0].Body = "z", "z", "z", unit()
	if fmt.Sprintf("%+v", p) != want || anf.Run(p, api.TyExn, "", plenty) != done("", "raise "+long("E")) {
		t.Error("another program")
	}
}

// TestP1_Rules: no program is changed by its run or when it is judged, and neither earlier calls nor others at the same time change
// a result.
func TestP1_Rules(t *testing.T) {
	terms := samplesOf(&termMaker{maker: newMaker(6)})
	var programs []api.Prog
	m := newMaker(7)
	for range 200 {
		p := m.program()
		if m.Intn(4) == 0 {
			m.spoil(&p)
		}
		programs = append(programs, p)
	}
	for _, x := range terms {
		programs = append(programs, composed(t, x))
	}
	all := func() string {
		var b strings.Builder
		for _, x := range terms {
			p, e := anf.Of(x)
			fmt.Fprintf(&b, "%+v %d\n", p, e)
		}
		for _, p := range programs {
			fmt.Fprintf(&b, "%v %+v\n", anf.May(p), anf.Run(p, api.TyInt, "AB", 500))
		}
		fmt.Fprintf(&b, "%+v\n", programs)
		return b.String()
	}
	before := fmt.Sprintf("%+v\n%+v\n", terms, programs)
	first := all()
	if fmt.Sprintf("%+v\n%+v\n", terms, programs) != before {
		t.Error("changed")
	}
	var wait sync.WaitGroup
	for range 4 {
		wait.Go(func() {
			if all() != first {
				t.Error("another result")
			}
		})
	}
	wait.Wait()
}

// TestP1_Extremes: calls with the least and greatest numbers end.
func TestP1_Extremes(t *testing.T) {
	for _, kind := range []int{math.MinInt, -1, 0, math.MaxInt} {
		for _, fuel := range []int64{math.MinInt64, -1, 0, 1, math.MaxInt64} {
			got := anf.Run(program(ret(num(5))), kind, "", fuel)
			if want := done("", "5"); fuel > 0 && got != want || fuel <= 0 && got != spent("") {
				t.Errorf("%d, %d: %v", kind, fuel, got)
			}
		}
	}
}
