package resolve_test

import (
	"fmt"
	"math/rand"
	"reflect"
	"slices"
	"strings"
	"testing"

	"marquetry/api"
	"marquetry/parse"
	"marquetry/resolve"
	"marquetry/show"
)

// An env is what names refer to, the innermost first.
type env struct {
	name  string
	v     int
	outer *env
}

// A fault is an error and its place.
type fault struct {
	errno api.Errno
	at    int
}

// A model says the chapter's words once more, construct by construct.
type model struct {
	count int
	fault *fault // the first one
}

func (m *model) fresh() int {
	m.count++
	return m.count - 1
}

func (m *model) wrong(errno api.Errno, at int) {
	if m.fault == nil {
		m.fault = &fault{errno, at}
	}
}

// resolved returns what Resolve should return.
func resolved(e api.Expr) (api.Term, api.Errno, int) {
	if _, errno := show.Show(e); errno == api.ErrMany || errno == api.ErrDeep || errno == api.ErrForm {
		return api.Term{}, errno, 0
	}
	m := &model{}
	t := m.expr(e, nil)
	if m.fault != nil {
		return api.Term{}, m.fault.errno, m.fault.at
	}
	return t, api.OK, 0
}

func (m *model) expr(e api.Expr, names *env) api.Term {
	arg := func(i int) api.Term { return m.expr(e.Args[i], names) }
	all := func() []api.Term {
		var l []api.Term
		for i := range e.Args {
			l = append(l, arg(i))
		}
		return l
	}
	switch e.Kind {
	case api.EVar:
		for n := names; n != nil; n = n.outer {
			if n.name == e.Name && e.Name != "_" {
				return api.Term{Kind: api.TVar, At: e.At, V: n.v}
			}
		}
		m.wrong(api.ErrName, e.At)
		return api.Term{}
	case api.EInt:
		return api.Term{Kind: api.TInt, At: e.At, N: e.N}
	case api.EString:
		return api.Term{Kind: api.TString, At: e.At, S: e.S}
	case api.EBool:
		return api.Term{Kind: api.TBool, At: e.At, N: e.N}
	case api.EUnit:
		return api.Term{Kind: api.TUnit, At: e.At}
	case api.EExn:
		return api.Term{Kind: api.TExn, At: e.At, S: e.Name}
	case api.EFun:
		v := m.fresh()
		return api.Term{Kind: api.TFun, At: e.At, V: v, Args: []api.Term{m.expr(e.Args[0], &env{e.Name, v, names})}}
	case api.EApp:
		return api.Term{Kind: api.TApp, At: e.At, Args: all()}
	case api.ELet:
		a := arg(0)
		v := m.fresh()
		b := m.expr(e.Args[1], &env{e.Name, v, names})
		return api.Term{Kind: api.TLet, At: e.At, V: v, Args: []api.Term{a, b}}
	case api.ERec:
		v := m.fresh()
		inner := &env{e.Name, v, names}
		a := m.expr(e.Args[0], inner)
		b := m.expr(e.Args[1], inner)
		return api.Term{Kind: api.TRec, At: e.At, V: v, Args: []api.Term{a, b}}
	case api.EIf:
		return api.Term{Kind: api.TIf, At: e.At, Args: all()}
	case api.ERecord:
		m.distinct(e.Labels, e.At)
		return api.Term{Kind: api.TRecord, At: e.At, Labels: e.Labels, Args: all()}
	case api.EWith:
		return api.Term{Kind: api.TWith, At: e.At, S: e.Name, Args: all()}
	case api.EField:
		return api.Term{Kind: api.TField, At: e.At, S: e.Name, Args: all()}
	case api.ETag:
		return api.Term{Kind: api.TTag, At: e.At, S: e.Name, Args: all()}
	case api.EMatch:
		a := arg(0)
		return api.Term{Kind: api.TMatch, At: e.At, Args: []api.Term{a}, Cases: m.arms(e.Arms, names)}
	case api.ETry:
		a := arg(0)
		v := m.fresh()
		x := func() api.Term { return api.Term{Kind: api.TVar, At: e.At, V: v} }
		last := api.Case{P: api.TPat{Kind: api.PAny}, Body: api.Term{Kind: api.TRaise, At: e.At, Args: []api.Term{x()}}}
		b := api.Term{Kind: api.TMatch, At: e.At, Args: []api.Term{x()}, Cases: append(m.arms(e.Arms, names), last)}
		return api.Term{Kind: api.TTry, At: e.At, V: v, Args: []api.Term{a, b}}
	case api.ERaise:
		return api.Term{Kind: api.TRaise, At: e.At, Args: all()}
	case api.EOp:
		return api.Term{Kind: api.TOp, At: e.At, N: e.N, Args: all()}
	case api.ESeq:
		a := arg(0)
		v := m.fresh()
		return api.Term{Kind: api.TLet, At: e.At, V: v, Args: []api.Term{a, arg(1)}}
	case api.EAnd:
		return api.Term{Kind: api.TIf, At: e.At, Args: append(all(), api.Term{Kind: api.TBool, At: e.At})}
	case api.EOr:
		l := all()
		return api.Term{Kind: api.TIf, At: e.At, Args: []api.Term{l[0], {Kind: api.TBool, At: e.At, N: 1}, l[1]}}
	}
	panic(e.Kind)
}

func (m *model) distinct(labels []string, at int) {
	for i, l := range labels {
		if slices.Contains(labels[:i], l) {
			m.wrong(api.ErrTwice, at)
		}
	}
}

func (m *model) arms(arms []api.Arm, names *env) []api.Case {
	var l []api.Case
	for _, a := range arms {
		inner := names
		var here []string
		p := m.pat(a.P, &inner, &here)
		l = append(l, api.Case{P: p, Body: m.expr(a.Body, inner)})
	}
	return l
}

func (m *model) pat(p api.Pat, names **env, here *[]string) api.TPat {
	q := api.TPat{Kind: p.Kind}
	switch p.Kind {
	case api.PVar:
		if slices.Contains(*here, p.Name) {
			m.wrong(api.ErrTwice, p.At)
		}
		q.V = m.fresh()
		*names, *here = &env{p.Name, q.V, *names}, append(*here, p.Name)
	case api.PInt, api.PBool:
		q.N = p.N
	case api.PString:
		q.S = p.S
	case api.PExn, api.PTag:
		q.S = p.Name
	case api.PRecord:
		m.distinct(p.Labels, p.At)
		q.Labels = p.Labels
	}
	for _, a := range p.Args {
		q.Args = append(q.Args, m.pat(a, names, here))
	}
	return q
}

// A shape is what a term or a pattern has; of a valid one, the fields that its kind has are taken out first.
type shape struct {
	v      int
	n      int64
	s      string
	labels []string
	args   int
	cases  int
}

// plain reports whether nothing but so many Args is left.
func (x shape) plain(args int) bool {
	return x.v == 0 && x.n == 0 && x.s == "" && len(x.labels) == 0 && x.args == args && x.cases == 0
}

// fielded does so for what has labels.
func (x shape) fielded() bool {
	m := map[string]bool{"": true}
	for _, l := range x.labels {
		if m[l] {
			return false
		}
		m[l] = true
	}
	ok := len(x.labels) == x.args
	x.labels = nil
	return ok && x.plain(x.args)
}

// without returns a shape less some fields.
func (x shape) without(v, n, s bool) shape {
	if v {
		x.v = 0
	}
	if n {
		x.n = 0
	}
	if s {
		x.s = ""
	}
	return x
}

func small(n int64) bool { return n >= -1<<62 && n < 1<<62 }

// wellTerm reports whether a term's own fields are as its kind has them.
func wellTerm(t api.Term) bool {
	x := shape{t.V, t.N, t.S, t.Labels, len(t.Args), len(t.Cases)}
	switch t.Kind {
	case api.TVar:
		return x.without(true, false, false).plain(0)
	case api.TInt:
		return small(t.N) && x.without(false, true, false).plain(0)
	case api.TString:
		return len(t.S) <= 4096 && x.without(false, false, true).plain(0)
	case api.TBool:
		return (t.N == 0 || t.N == 1) && x.without(false, true, false).plain(0)
	case api.TUnit:
		return x.plain(0)
	case api.TExn:
		return t.S != "" && x.without(false, false, true).plain(0)
	case api.TFun:
		return x.without(true, false, false).plain(1)
	case api.TApp:
		return x.plain(2)
	case api.TLet, api.TTry:
		return x.without(true, false, false).plain(2)
	case api.TRec:
		return x.without(true, false, false).plain(2) && t.Args[0].Kind == api.TFun
	case api.TIf:
		return x.plain(3)
	case api.TRecord:
		return x.fielded()
	case api.TWith:
		return t.S != "" && x.without(false, false, true).plain(2)
	case api.TField, api.TTag:
		return t.S != "" && x.without(false, false, true).plain(1)
	case api.TMatch:
		x.cases = 0
		return len(t.Cases) > 0 && x.plain(1)
	case api.TRaise:
		return x.plain(1)
	case api.TOp:
		counts := []int{-1, 2, 2, 2, 2, 2, 1, 2, 2, 1, 1, 1, 2, 2, 2, 3, 1, 1, 2, 2, 1, 1}
		return t.N > 0 && t.N < int64(len(counts)) && x.without(false, true, false).plain(counts[t.N])
	}
	return false
}

func wellPat(p api.TPat) bool {
	x := shape{p.V, p.N, p.S, p.Labels, len(p.Args), 0}
	switch p.Kind {
	case api.PAny, api.PUnit:
		return x.plain(0)
	case api.PVar:
		return x.without(true, false, false).plain(0)
	case api.PInt:
		return small(p.N) && x.without(false, true, false).plain(0)
	case api.PString:
		return len(p.S) <= 4096 && x.without(false, false, true).plain(0)
	case api.PBool:
		return (p.N == 0 || p.N == 1) && x.without(false, true, false).plain(0)
	case api.PExn:
		return p.S != "" && x.without(false, false, true).plain(0)
	case api.PTag:
		return p.S != "" && x.without(false, false, true).plain(1)
	case api.PRecord:
		return x.fielded()
	}
	return false
}

// A judge reports whether a term is valid: it counts binders by themselves, and hands what is seen down.
type judge struct {
	parts int
	bound map[int]int
}

func valid(t api.Term) bool {
	j := judge{bound: map[int]int{}}
	if !j.term(t, 1, nil) || j.parts > 16384 {
		return false
	}
	for v, times := range j.bound {
		if v < 0 || v > 1<<20 || times > 1 {
			return false
		}
	}
	return true
}

func (j *judge) term(t api.Term, depth int, seen []int) bool {
	j.parts++
	if depth > 600 || !wellTerm(t) || t.Kind == api.TVar && !slices.Contains(seen, t.V) {
		return false
	}
	inner := append(slices.Clone(seen), t.V)
	if !slices.Contains([]int{api.TFun, api.TLet, api.TRec, api.TTry}, t.Kind) {
		inner = seen
	} else {
		j.bound[t.V]++
	}
	for i, a := range t.Args {
		now := inner
		if i == 0 && (t.Kind == api.TLet || t.Kind == api.TTry) {
			now = seen
		}
		if !j.term(a, depth+1, now) {
			return false
		}
	}
	for _, c := range t.Cases {
		now := slices.Clone(seen)
		if !j.pat(c.P, depth+1, &now) || !j.term(c.Body, depth+1, now) {
			return false
		}
	}
	return true
}

func (j *judge) pat(p api.TPat, depth int, seen *[]int) bool {
	j.parts++
	if depth > 600 || !wellPat(p) {
		return false
	}
	if p.Kind == api.PVar {
		j.bound[p.V]++
		*seen = append(*seen, p.V)
	}
	for _, a := range p.Args {
		if !j.pat(a, depth+1, seen) {
			return false
		}
	}
	return true
}

// A maker makes random expressions, in which most names are bound.
type maker struct{ *rand.Rand }

func pick[T any](m maker, l ...T) T { return l[m.Intn(len(l))] }

func (m maker) name() string { return pick(m, "x", "y", "z", "_", "f_1") }

func (m maker) upper() string { return pick(m, "A", "Foo", "T_1") }

func (m maker) labels(n int) []string {
	l := []string{"a", "b", "c", "x"}
	m.Shuffle(4, func(i, k int) { l[i], l[k] = l[k], l[i] })
	if n > 1 && m.Intn(8) == 0 {
		l[n-1] = l[0]
	}
	return l[:n]
}

// leaf returns an expression without parts; names are those that are bound.
func (m maker) leaf(names []string) api.Expr {
	if m.Intn(2) == 0 && len(names) > 0 {
		return api.Expr{Kind: api.EVar, Name: pick(m, names...)}
	}
	return pick(m, api.Expr{Kind: api.EInt, N: m.Int63n(1 << 62)}, api.Expr{Kind: api.EString, S: pick(m, "", "s", "\x00\n")}, api.Expr{Kind: api.EBool, N: m.Int63n(2)}, api.Expr{Kind: api.EUnit}, api.Expr{Kind: api.EExn, Name: m.upper()}, api.Expr{Kind: api.EVar, Name: m.name()})
}

var counts = map[int]int{api.EApp: 2, api.EIf: 3, api.EWith: 2, api.EField: 1, api.ETag: 1, api.ERaise: 1, api.ESeq: 2, api.EAnd: 2, api.EOr: 2}

func (m maker) expr(depth int, names []string) api.Expr {
	if depth <= 1 {
		e := m.leaf(names)
		e.At = m.Intn(1000) - 500
		return e
	}
	sub := func(more ...string) api.Expr {
		return m.expr(depth-1, append(slices.Clone(names), more...))
	}
	e := api.Expr{Kind: api.EVar + m.Intn(api.EOr), At: m.Intn(1000) - 500}
	switch e.Kind {
	case api.EFun:
		e.Name = m.name()
		e.Args = []api.Expr{sub(e.Name)}
	case api.ELet:
		e.Name = m.name()
		e.Args = []api.Expr{sub(), sub(e.Name)}
	case api.ERec:
		e.Name = m.name()
		x := m.name()
		fun := api.Expr{Kind: api.EFun, At: m.Intn(9), Name: x, Args: []api.Expr{m.expr(depth-2, append(slices.Clone(names), e.Name, x))}}
		e.Args = []api.Expr{fun, sub(e.Name)}
	case api.ERecord:
		e.Labels = m.labels(m.Intn(4))
		for range e.Labels {
			e.Args = append(e.Args, sub())
		}
	case api.EMatch, api.ETry:
		e.Args = []api.Expr{sub()}
		for range 1 + m.Intn(3) {
			var bound []string
			p := m.pat(depth-1, &bound)
			e.Arms = append(e.Arms, api.Arm{P: p, Body: sub(bound...)})
		}
	case api.EOp:
		e.N = 1 + m.Int63n(21)
		for range []int{2, 2, 2, 2, 2, 1, 2, 2, 1, 1, 1, 2, 2, 2, 3, 1, 1, 2, 2, 1, 1}[e.N-1] {
			e.Args = append(e.Args, sub())
		}
	case api.EWith, api.EField:
		e.Name = pick(m, "a", "b", "_", "x")
	case api.ETag:
		e.Name = m.upper()
	case api.EVar, api.EInt, api.EString, api.EBool, api.EUnit, api.EExn:
		return m.expr(1, names)
	}
	for range counts[e.Kind] {
		e.Args = append(e.Args, sub())
	}
	return e
}

func (m maker) pat(depth int, bound *[]string) api.Pat {
	kinds := 9
	if depth <= 1 {
		kinds = 7
	}
	p := api.Pat{Kind: 1 + m.Intn(kinds), At: m.Intn(1000) - 500}
	switch p.Kind {
	case api.PVar:
		p.Name = pick(m, "x", "y", "z", "f_1", "p", "q", "r")
		if slices.Contains(*bound, p.Name) && m.Intn(2) > 0 {
			return api.Pat{Kind: api.PAny, At: p.At}
		}
		*bound = append(*bound, p.Name)
	case api.PInt:
		p.N = m.Int63n(1<<62) * pick[int64](m, 1, -1)
	case api.PBool:
		p.N = m.Int63n(2)
	case api.PString:
		p.S = pick(m, "", "s")
	case api.PExn:
		p.Name = m.upper()
	case api.PTag:
		p.Name = m.upper()
		p.Args = []api.Pat{m.pat(depth-1, bound)}
	case api.PRecord:
		p.Labels = m.labels(m.Intn(4))
		for range p.Labels {
			p.Args = append(p.Args, m.pat(depth-1, bound))
		}
	}
	return p
}

// same reports whether two terms are the same, whether an empty list is nil or not.
func same(a, b api.Term) bool { return fmt.Sprintf("%+v", a) == fmt.Sprintf("%+v", b) }

func TestP8_1_Model(t *testing.T) {
	m := maker{rand.New(rand.NewSource(81))}
	errors := map[api.Errno]int{}
	kinds := map[int]int{}
	for i := range 20000 {
		e := m.expr(1+i/4000, nil)
		want, errno, at := resolved(e)
		got, f, place := resolve.Resolve(e)
		if f != errno || place != at || !same(got, want) {
			t.Fatalf("%+v: %d at %d, want %d at %d:\n%s, want\n%s", e, f, place, errno, at, dump(got), dump(want))
		}
		errors[f]++
		kinds[got.Kind]++
		if f == api.OK && !resolve.May(got) {
			t.Fatalf("%+v: not valid", e)
		}
	}
	for _, errno := range []api.Errno{api.OK, api.ErrName, api.ErrTwice} {
		if errors[errno] < 100 {
			t.Errorf("%d of error %d only", errors[errno], errno)
		}
	}
	for k := api.TInt; k <= api.TOp; k++ {
		if kinds[k] < 20 {
			t.Errorf("%d of kind %d only", kinds[k], k)
		}
	}
}

// spoil changes a field of some part of a term.
func (m maker) spoil(t *api.Term) {
	if n := len(t.Args) + len(t.Cases); n > 0 && m.Intn(4) > 0 {
		i := m.Intn(n)
		switch {
		case i < len(t.Args):
			m.spoil(&t.Args[i])
		case m.Intn(2) == 0:
			m.spoil(&t.Cases[i-len(t.Args)].Body)
		default:
			m.spoilPat(&t.Cases[i-len(t.Args)].P)
		}
		return
	}
	switch m.Intn(9) {
	case 0:
		t.Kind = m.Intn(22) - 1
	case 1, 2:
		t.V = m.variable()
	case 3:
		t.N = m.number()
	case 4:
		t.S = pick(m, "", "s", strings.Repeat("s", 4097))
	case 5:
		t.Labels = append(m.labels(m.Intn(4)), pick(m, "", "a", "d"))[m.Intn(2):]
	case 6:
		t.Args = append(t.Args, pick(m, unit, use(m.variable()), binding(api.TFun, m.variable(), unit)))
	case 7:
		t.Args = t.Args[:len(t.Args)/2]
	case 8:
		t.Cases = append(t.Cases, api.Case{P: pvar(m.variable()), Body: use(m.variable())})[m.Intn(2):]
	}
}

func (m maker) spoilPat(p *api.TPat) {
	if len(p.Args) > 0 && m.Intn(3) > 0 {
		m.spoilPat(&p.Args[m.Intn(len(p.Args))])
		return
	}
	switch m.Intn(7) {
	case 0:
		p.Kind = m.Intn(12) - 1
	case 1, 2:
		p.V = m.variable()
	case 3:
		p.N = m.number()
	case 4:
		p.S = pick(m, "", "s", strings.Repeat("s", 4097))
	case 5:
		p.Labels = append(m.labels(m.Intn(4)), pick(m, "", "a", "d"))[m.Intn(2):]
	case 6:
		p.Args = append(p.Args, pvar(m.variable()))[m.Intn(2):]
	}
}

func (m maker) variable() int {
	return pick(m, m.Intn(6), m.Intn(20), 100+m.Intn(1000), 1<<20, 1<<20+1, -1)
}

func (m maker) number() int64 {
	return pick[int64](m, 0, 1, 2, -1, 6, 15, 21, 22, 1<<62-1, 1<<62, -1<<62, -1<<62-1, 1<<63-1, -1<<63)
}

func TestP8_2_Model(t *testing.T) {
	m := maker{rand.New(rand.NewSource(82))}
	tally := map[bool]int{}
	for i := range 40000 {
		x, errno, _ := resolve.Resolve(m.expr(1+i/8000, nil))
		if errno != api.OK {
			continue
		}
		for range m.Intn(3) {
			m.spoil(&x)
		}
		want := valid(x)
		if resolve.May(x) != want {
			t.Fatalf("%+v: not %v", x, want)
		}
		tally[want]++
	}
	if tally[true] < 3000 || tally[false] < 3000 {
		t.Errorf("%v", tally)
	}
}

// TestP8_2_AllShapes: all kinds with all combinations of a few values for each field.
func TestP8_2_AllShapes(t *testing.T) {
	fun := binding(api.TFun, 9, unit)
	tally := map[int]int{}
	for args := range 5 {
		for labels := range 4 {
			for cases := range 3 {
				for _, n := range []int64{-1, 0, 1, 2, api.OpNeg, api.OpSet, api.OpPutc, api.OpPutc + 1, 1<<62 - 1, 1 << 62, -1 << 62, -1 << 63} {
					for kind := -1; kind <= api.TOp+1; kind++ {
						for _, v := range []int{-1, 0, 3, 8} {
							for _, s := range []string{"", "s"} {
								x := api.Term{Kind: kind, V: v, N: n, S: s, Labels: []string{"k", "l", "k"}[:labels], Args: []api.Term{fun, unit, unit, unit}[:args], Cases: []api.Case{{P: pvar(4), Body: use(4)}, {P: pvar(5), Body: use(4)}}[:cases]}
								want := valid(x)
								if resolve.May(x) != want {
									t.Fatalf("%+v: not %v", x, want)
								}
								outer := binding(api.TFun, 8, x)
								want = valid(outer)
								if resolve.May(outer) != want {
									t.Fatalf("%+v: not %v", outer, want)
								}
								if want {
									tally[kind]++
								}
							}
						}
					}
				}
			}
		}
	}
	for kind := api.TVar; kind <= api.TOp; kind++ {
		if tally[kind] == 0 {
			t.Errorf("none of kind %d", kind)
		}
	}
}

func TestP8_2_AllPatterns(t *testing.T) {
	tally := map[int]int{}
	for args := range 4 {
		for labels := range 4 {
			for _, n := range []int64{-1, 0, 1, 2, 1<<62 - 1, 1 << 62, -1 << 62, -1 << 63} {
				for kind := -1; kind <= api.PRecord+1; kind++ {
					for _, v := range []int{-1, 0, 3, 4} {
						for _, s := range []string{"", "s"} {
							p := api.TPat{Kind: kind, V: v, N: n, S: s, Labels: []string{"k", "l", "k"}[:labels], Args: []api.TPat{pvar(3), {Kind: api.PAny}, pvar(5)}[:args]}
							x := match(api.Case{P: p, Body: unit})
							want := valid(x)
							if resolve.May(x) != want {
								t.Fatalf("%+v: not %v", x, want)
							}
							if want {
								tally[kind]++
							}
						}
					}
				}
			}
		}
	}
	for kind := api.PAny; kind <= api.PRecord; kind++ {
		if tally[kind] == 0 {
			t.Errorf("none of kind %d", kind)
		}
	}
}

// renamed returns an expression in which each variable has the name that another one makes of its number, and each name
// that refers to it too.
func renamed(e api.Expr, names *env, next *int, name func(v int) string) api.Expr {
	bind := func(s string, outer *env) (string, *env) {
		v := *next
		*next++
		if s == "_" {
			return s, outer
		}
		return name(v), &env{s, v, outer}
	}
	args := slices.Clone(e.Args)
	visit := func(i int, names *env) { args[i] = renamed(e.Args[i], names, next, name) }
	switch e.Kind {
	case api.EVar:
		for n := names; n != nil; n = n.outer {
			if n.name == e.Name {
				e.Name = name(n.v)
				return e
			}
		}
	case api.EFun:
		var inner *env
		e.Name, inner = bind(e.Name, names)
		visit(0, inner)
	case api.ELet:
		visit(0, names)
		var inner *env
		e.Name, inner = bind(e.Name, names)
		visit(1, inner)
	case api.ERec:
		var inner *env
		e.Name, inner = bind(e.Name, names)
		visit(0, inner)
		visit(1, inner)
	case api.ESeq:
		visit(0, names)
		*next++
		visit(1, names)
	default:
		for i := range args {
			visit(i, names)
		}
	}
	if e.Kind == api.ETry {
		*next++
	}
	arms := slices.Clone(e.Arms)
	for i, a := range arms {
		inner := names
		arms[i].P = renamedPat(a.P, func(s string) string {
			s, inner = bind(s, inner)
			return s
		})
		arms[i].Body = renamed(a.Body, inner, next, name)
	}
	e.Args, e.Arms = args, arms
	return e
}

func renamedPat(p api.Pat, bind func(string) string) api.Pat {
	if p.Kind == api.PVar {
		p.Name = bind(p.Name)
	}
	p.Args = slices.Clone(p.Args)
	for i, a := range p.Args {
		p.Args[i] = renamedPat(a, bind)
	}
	return p
}

// TestP8_3_Read: what becomes of a source is valid, and names do not matter.
func TestP8_3_Read(t *testing.T) {
	m := maker{rand.New(rand.NewSource(83))}
	terms := 0
	for i := range 15000 {
		e := m.expr(1+i/3000, nil)
		src, errno := show.Show(e)
		if errno != api.OK {
			continue
		}
		term, errno, at := resolve.Resolve(read(t, src))
		if errno != api.OK {
			continue
		}
		terms++
		if at != 0 || !resolve.May(term) {
			t.Fatalf("%s: at %d, or not valid", src, at)
		}
		for _, name := range []func(v int) string{func(v int) string { return fmt.Sprint("v", v) }, func(v int) string { return strings.Repeat("_", 2+v) }, func(v int) string { return fmt.Sprint("x", 1000-v) }} {
			next := 0
			again, errno, _ := resolve.Resolve(renamed(read(t, src), nil, &next, name))
			if errno != api.OK || !reflect.DeepEqual(again, term) {
				t.Fatalf("%s: other names, another term: %d", src, errno)
			}
		}
	}
	if terms < 3000 {
		t.Errorf("%d terms only", terms)
	}
}

// TestP8_3_Greatest: sources at the limits: the deepest, and those with the most parts.
func TestP8_3_Greatest(t *testing.T) {
	nest := func(n int, before, inner, after string) string {
		return strings.Repeat(before, n) + inner + strings.Repeat(after, n)
	}
	for _, src := range []string{
		nest(199, "try A with _->", "1", " end"),
		nest(199, "try ", "1", " with x->x end"),
		nest(199, "match 1 with x->", "x", " end"),
		nest(199, "{x=", "1", "}"),
		nest(199, "#A(", "1", ")"),
		nest(199, "fun x->", "x", ""),
		nest(199, "1;", "1", ""),
		nest(199, "()&&", "()", ""),
		nest(199, "()||", "()", ""),
		nest(199, "", "1", " 1"),
		nest(1, "match 1 with ", nest(198, "#A(", "x", ")"), "->x end"),
		nest(1, "match 1 with ", nest(198, "{a=", "x", "}"), "->x end"),
		nest(1, "match 1 with ", nest(810, "x->x|", "_->1", ""), " end"),
		nest(1, "match 1 with ", nest(155, "_->try A with _->1 end|", "_->1", ""), " end"),
		nest(1, "match 1 with ", nest(6, "_->"+nest(198, "1||", "1", "")+"|", "_->1", ""), " end"),
	} {
		x, errno, at := resolve.Resolve(read(t, src))
		if errno != api.OK || at != 0 || !resolve.May(x) || !valid(x) {
			t.Errorf("%.40s: %d at %d, or not valid", src, errno, at)
		}
	}
	// An expression that no source has room for may become more parts than it has, and still no more than a term has.
	unit := api.Expr{Kind: api.EUnit}
	try := api.Expr{Kind: api.ETry, Args: []api.Expr{unit}, Arms: []api.Arm{{P: api.Pat{Kind: api.PAny}, Body: unit}}}
	e := api.Expr{Kind: api.ERecord}
	for i := range (api.MaxNodes - 1) / 4 {
		e.Labels, e.Args = append(e.Labels, fmt.Sprint("l", i)), append(e.Args, try)
	}
	if x, errno, at := resolve.Resolve(e); errno != api.OK || at != 0 || !resolve.May(x) || !valid(x) {
		t.Errorf("%d parts: %d at %d, or not valid", parse.Count(e, api.MaxNodes), errno, at)
	}
}
