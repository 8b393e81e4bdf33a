package infer_test

import (
	"math/bits"
	"math/rand"
	"slices"
	"strings"
	"testing"

	"marquetry/api"
	"marquetry/infer"
	"marquetry/resolve"
	"marquetry/row"
)

// onEach returns a term with other terms and patterns right within it.
func onEach(x api.Term, term func(api.Term) api.Term, pattern func(api.TPat) api.TPat) api.Term {
	x.Args, x.Cases = slices.Clone(x.Args), slices.Clone(x.Cases)
	for i := range x.Args {
		x.Args[i] = term(x.Args[i])
	}
	for i, c := range x.Cases {
		x.Cases[i] = api.Case{P: pattern(c.P), Body: term(c.Body)}
	}
	return x
}

// An expander writes what let and let rec bind in place of the variable, so that no type needs to be general.
type expander struct {
	next  int // the next variable
	bound map[int]api.Term
}

func (e *expander) term(x api.Term) api.Term {
	switch b, ok := e.bound[x.V]; {
	case x.Kind == api.TVar && ok:
		names := map[int]int{}
		return e.renamed(b, names)
	case x.Kind == api.TLet && isValue(x.Args[0]):
		first := e.term(x.Args[0])
		e.bound[x.V] = first
		x.Args = []api.Term{first, e.term(x.Args[1])}
		return x
	case x.Kind == api.TRec:
		f := e.term(x.Args[0])
		e.bound[x.V] = binding(api.TRec, x.V, f, use(x.V))
		x.Args = []api.Term{f, e.term(x.Args[1])}
		return x
	}
	return onEach(x, e.term, func(p api.TPat) api.TPat { return p })
}

// renamed returns a term with new variables in place of those that it binds.
func (e *expander) renamed(x api.Term, names map[int]int) api.Term {
	if w, ok := names[x.V]; x.Kind == api.TVar {
		if ok {
			x.V = w
		}
		return x
	}
	if slices.Contains([]int{api.TFun, api.TLet, api.TRec, api.TTry}, x.Kind) {
		x.V = e.name(x.V, names)
	}
	return onEach(x, func(y api.Term) api.Term { return e.renamed(y, names) }, func(p api.TPat) api.TPat { return e.pattern(p, names) })
}

func (e *expander) pattern(p api.TPat, names map[int]int) api.TPat {
	if p.Kind == api.PVar {
		p.V = e.name(p.V, names)
	}
	p.Args = slices.Clone(p.Args)
	for i := range p.Args {
		p.Args[i] = e.pattern(p.Args[i], names)
	}
	return p
}

func (e *expander) name(v int, names map[int]int) int {
	e.next++
	names[v] = e.next
	return e.next
}

// TestP11_2_Let: a variable of let whose type is general may be used as if the bound term stood in its place.
func TestP11_2_Let(t *testing.T) {
	m := &maker{Rand: rand.New(rand.NewSource(1121))}
	tried := map[api.Errno]int{}
	for i := range 20000 {
		x := m.random(2 + i%5)
		if i%2 == 0 {
			x = m.small(2+i%5, 9)
		}
		e := &expander{next: m.next, bound: map[int]api.Term{}}
		y := e.term(x)
		if !resolve.May(y) || e.next == m.next {
			continue
		}
		a, b := find(x), find(y)
		if a.errno == api.ErrMany || b.errno == api.ErrMany {
			continue
		}
		tried[a.errno]++
		if a.text != b.text || (a.errno == api.OK) != (b.errno == api.OK) {
			t.Fatalf("%+v: %v; expanded: %v", x, a, b)
		}
	}
	if tried[api.OK] < 1000 || tried[api.ErrType] < 1000 || tried[api.ErrOccurs] < 200 {
		t.Errorf("%v", tried)
	}
}

// A set is some of a judge's types: bit i stands for the i-th one.
type set uint64

const everything = ^set(0)

// each returns all that is found for the types of a set.
func (s set) each(found func(i int) set) set {
	var l set
	for ; s != 0; s &= s - 1 {
		l |= found(bits.TrailingZeros64(uint64(s)))
	}
	return l
}

// A known type is one without variables, whose parts are a judge's, too.
type known struct {
	t        api.Type
	from, to int
	fields   map[string]int
}

// A judge finds the types without variables that a term has, out of a few: it tries all of them for each variable of the term.
type judge struct {
	all     []known
	places  map[string]int
	records map[string]set // by their labels
	tags    map[string]set // all that have a tag
	arrows  [64][64]set
	with    map[replaced]set
	env     [64]set // a variable of let has all types of the term that is bound
	left    int     // how many more steps may be taken: the types that are found later are left out
}

// replaced is a record in which a label has another type.
type replaced struct {
	record int
	label  string
	value  int
}

func newJudge() *judge {
	num, unit, empty := plain(api.TyInt), plain(api.TyUnit), rowed(api.TyRecord, 0)
	j := &judge{places: map[string]int{}, records: map[string]set{}, tags: map[string]set{}, with: map[replaced]set{}}
	j.add(num, unit, plain(api.TyBool), empty)
	for _, x := range []api.Type{num, unit} {
		for _, kind := range []int{api.TyRecord, api.TyTags} {
			first, second := there("A", x), there("B", x)
			j.add(rowed(kind, 0, first), rowed(kind, 0, second))
			j.add(rowed(kind, 0, first, there("B", num)), rowed(kind, 0, first, there("B", unit)))
		}
	}
	record, tags := rowed(api.TyRecord, 0, there("A", num)), rowed(api.TyTags, 0, there("A", num))
	l := []api.Type{num, unit, empty, record, tags, plain(api.TyFun, num, num)}
	j.add(l[5])
	for _, from := range l {
		for _, to := range l {
			j.add(plain(api.TyFun, from, to))
		}
	}
	both := []api.Field{there("A", num), there("B", num)}
	j.add(plain(api.TyFun, rowed(api.TyRecord, 0, both...), num), plain(api.TyFun, rowed(api.TyTags, 0, both...), num))
	j.add(plain(api.TyFun, rowed(api.TyRecord, 0, there("A", unit)), record))
	return j
}

// add adds types whose parts have been added before.
func (j *judge) add(l ...api.Type) {
	for _, t := range l {
		if _, again := j.places[row.Text(t)]; again {
			continue
		}
		k, labels, here := known{t: t, fields: map[string]int{}}, "", set(1)<<len(j.all)
		if t.Kind == api.TyFun {
			k.from, k.to = j.places[row.Text(t.Args[0])], j.places[row.Text(t.Args[1])]
			j.arrows[k.from][k.to] = here
		}
		for _, f := range t.Row.Fields {
			k.fields[f.Label] = j.places[row.Text(f.T)]
			labels += f.Label
			if t.Kind == api.TyTags {
				j.tags[f.Label] |= here
			}
		}
		if t.Kind == api.TyRecord {
			j.records[labels] |= here
		}
		j.places[row.Text(t)] = len(j.all)
		j.all = append(j.all, k)
	}
}

func (j *judge) types(x api.Term) set {
	if j.left--; j.left < 0 {
		return 0
	}
	arg := func(i int) set { return j.types(x.Args[i]) }
	switch x.Kind {
	case api.TVar:
		return j.env[x.V]
	case api.TRaise:
		return 1<<len(j.all) - 1
	case api.TFun:
		return j.types(api.Term{Kind: api.TRaise}).each(func(from int) set {
			j.env[x.V] = 1 << from
			return arg(0).each(func(to int) set { return j.arrows[from][to] })
		})
	case api.TApp:
		args := arg(1)
		return arg(0).each(func(f int) set {
			if j.all[f].t.Kind == api.TyFun && args>>j.all[f].from&1 == 1 {
				return 1 << j.all[f].to
			}
			return 0
		})
	case api.TLet:
		first := arg(0)
		if isValue(x.Args[0]) && first != 0 {
			j.env[x.V] = first
			return arg(1)
		}
		return first.each(func(t int) set {
			j.env[x.V] = 1 << t
			return arg(1)
		})
	case api.TRec:
		j.env[x.V] = j.types(api.Term{Kind: api.TRaise}).each(func(f int) set {
			j.env[x.V] = 1 << f
			return 1 << f & arg(0)
		})
		if j.env[x.V] == 0 {
			return 0
		}
		return arg(1)
	case api.TIf:
		return arg(1) & arg(2) // The first Arg is a boolean.
	case api.TMatch:
		return arg(0).each(func(t int) set {
			l := everything
			for _, c := range x.Cases {
				if !j.fits(c.P, t) {
					return 0
				}
				l &= j.types(c.Body)
			}
			return l
		})
	}
	return j.data(x, arg)
}

// data finds the types of numbers, records, tags, and what is in them.
func (j *judge) data(x api.Term, arg func(int) set) set {
	switch x.Kind {
	case api.TInt:
		return 1 << j.places["int"]
	case api.TRecord:
		l := j.records[strings.Join(slices.Sorted(slices.Values(x.Labels)), "")]
		for i, label := range x.Labels {
			values := arg(i)
			l = l.each(func(r int) set { return set(1) << r & -(values >> j.all[r].fields[label] & 1) })
		}
		return l
	case api.TWith:
		values := arg(1)
		return arg(0).each(func(r int) set {
			return values.each(func(t int) set { return j.replaced(replaced{r, x.S, t}) })
		})
	case api.TField:
		return arg(0).each(func(r int) set {
			if t, ok := j.all[r].fields[x.S]; ok && j.all[r].t.Kind == api.TyRecord {
				return 1 << t
			}
			return 0
		})
	case api.TTag:
		values := arg(0)
		return j.tags[x.S].each(func(r int) set { return set(1) << r & -(values >> j.all[r].fields[x.S] & 1) })
	}
	return 1 << j.places["unit"]
}

// replaced returns the set of the record's type, or none if it is none of the judge's.
func (j *judge) replaced(r replaced) set {
	before := j.all[r.record].t
	if before.Kind != api.TyRecord {
		return 0
	}
	if l, ok := j.with[r]; ok {
		return l
	}
	l := slices.DeleteFunc(slices.Clone(before.Row.Fields), func(f api.Field) bool { return f.Label == r.label })
	if i, ok := j.places[row.Text(rowed(api.TyRecord, 0, append(l, there(r.label, j.all[r.value].t))...))]; ok {
		j.with[r] = 1 << i
	} else {
		j.with[r] = 0
	}
	return j.with[r]
}

// fits reports whether a pattern is one for values of a type, and gives its variables theirs.
func (j *judge) fits(p api.TPat, t int) bool {
	k := j.all[t]
	switch p.Kind {
	case api.PVar:
		j.env[p.V] = 1 << t
		return true
	case api.PInt:
		return k.t.Kind == api.TyInt
	case api.PTag:
		u, ok := k.fields[p.S]
		return ok && k.t.Kind == api.TyTags && j.fits(p.Args[0], u)
	case api.PRecord:
		for i, label := range p.Labels {
			if u, ok := k.fields[label]; !ok || !j.fits(p.Args[i], u) {
				return false
			}
		}
		return k.t.Kind == api.TyRecord
	}
	return true
}

// TestP11_2_General: each of a few types that a term has is an instance of the one that is found; if none is found, it has none.
func TestP11_2_General(t *testing.T) {
	m := &maker{Rand: rand.New(rand.NewSource(1122))}
	j := newJudge()
	if len(j.all) > 64 || len(j.places) != len(j.all) {
		t.Fatal(len(j.all), len(j.places))
	}
	typed, instances, kinds := 0, 0, newTally()
	for i := range 7000 {
		x := m.small(2+i%3, 2)
		found, e, _ := infer.Infer(x)
		j.left = 15000
		l := j.types(x)
		if l != 0 {
			typed++
			kinds.term(x)
		}
		l.each(func(i int) set {
			instances++
			g := j.all[i].t
			if u := row.New().Unify(found, g); e != api.OK || u != api.OK {
				t.Fatalf("%+v has type %s, but %s is found (%d)", x, row.Text(g), row.Text(found), e)
			}
			return 0
		})
	}
	for _, k := range []int{api.TVar, api.TInt, api.TUnit, api.TFun, api.TApp, api.TLet, api.TRec, api.TIf, api.TRecord, api.TWith, api.TField, api.TTag, api.TMatch, api.TRaise} {
		if kinds.kinds[k] < 10 {
			t.Errorf("%d terms of kind %d only", kinds.kinds[k], k)
		}
	}
	if typed < 800 || instances < 5000 {
		t.Errorf("%d terms, %d types", typed, instances)
	}
}
