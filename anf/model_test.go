package anf_test

import (
	"fmt"
	"math/big"
	"reflect"
	"slices"
	"strings"

	"marquetry/api"
)

// The chapter's words once more: which programs are valid. What is passed does not contain itself.

// A form is what a kind may have: the names of its fields, and the numbers of its Atoms and Kids (-1: any).
type form struct {
	fields      string
	atoms, kids int
}

var anfForms = map[int]form{
	api.AnfLet:    {"X R Kids", 0, 1},
	api.AnfRet:    {"A", 1, 0},
	api.AnfTail:   {"A", 2, 0},
	api.AnfRaise:  {"A", 1, 0},
	api.AnfIf:     {"A Kids", 1, 2},
	api.AnfSwitch: {"A Ns Kids", 1, -1},
	api.AnfJoin:   {"N Xs Kids", 0, 2},
	api.AnfJump:   {"N A", -1, 0},
}

var stepForms = map[int]form{
	api.StepMove:    {"A", 1, 0},
	api.StepOp:      {"N A", -1, 0},
	api.StepCall:    {"A", 2, 0},
	api.StepClosure: {"N A", -1, 0},
	api.StepCapture: {"N", 0, 0},
	api.StepRecord:  {"Ns A", -1, 0},
	api.StepWith:    {"N A", 2, 0},
	api.StepField:   {"N A", 1, 0},
	api.StepTag:     {"N A", 1, 0},
	api.StepTagOf:   {"A", 1, 0},
	api.StepUntag:   {"A", 1, 0},
	api.StepSame:    {"A", 2, 0},
	api.StepTry:     {"A", 2, 0},
	api.StepKnown:   {"N A", 2, 0},
}

// The kinds of the operands of each operation: *: any.
var operations = map[int64]string{
	api.OpAdd: "nn", api.OpSub: "nn", api.OpMul: "nn", api.OpDiv: "nn", api.OpRem: "nn", api.OpNeg: "n", api.OpEq: "nn", api.OpLt: "nn", api.OpNot: "n",
	api.OpRef: "*", api.OpDeref: "p", api.OpAssign: "p*", api.OpArray: "n*", api.OpGet: "an", api.OpSet: "an*", api.OpLen: "a", api.OpSize: "s", api.OpByte: "sn", api.OpCat: "ss",
	api.OpGetc: "n", api.OpPutc: "n",
}

func bare(x reflect.Value) bool {
	switch x.Kind() {
	case reflect.Slice:
		return x.Len() == 0
	case reflect.Struct:
		for i := range x.NumField() {
			if !bare(x.Field(i)) {
				return false
			}
		}
		return true
	}
	return x.IsZero()
}

// fits reports whether a part has no field beside those of its form, and so many Atoms and Kids.
func (f form) fits(part any, atoms, kids int) bool {
	x := reflect.ValueOf(part)
	for i := range x.NumField() {
		name := x.Type().Field(i).Name
		if name != "Kind" && !slices.Contains(strings.Fields(f.fields), name) && !bare(x.Field(i)) {
			return false
		}
	}
	return (f.atoms < 0 || f.atoms == atoms) && (f.kids < 0 || f.kids == kids)
}

func increasing[T int64 | string](l []T) bool {
	return slices.IsSorted(l) && len(slices.Compact(slices.Clone(l))) == len(l)
}

// valid reports whether a program is valid.
func valid(p api.Prog) bool {
	for _, l := range [][]string{p.Labels, p.Tags, p.Exns} {
		if !increasing(l) || slices.Contains(l, "") {
			return false
		}
	}
	for _, s := range []string{"Bounds", "Divide", "Match", "Size"} {
		if !slices.Contains(p.Exns, s) {
			return false
		}
	}
	if slices.ContainsFunc(p.Texts, func(s string) bool { return len(s) > 4096 }) {
		return false
	}
	if len(p.Funcs) < 1 || len(p.Funcs) > 4096 || p.Funcs[0].Caps != 0 {
		return false
	}
	parts := 0
	for _, f := range p.Funcs {
		n, depth := measured(f.Body)
		parts += n
		if f.Caps < 0 || f.Caps > 4096 || depth > 32768 {
			return false
		}
	}
	if parts > 65536 {
		return false
	}
	for _, f := range p.Funcs {
		if !once(f.Body) || !(judge{p, f.Caps}).anf(f.Body, []int64{0, 1}, nil) {
			return false
		}
	}
	return true
}

// measured returns how many parts there are, and how deep the deepest one is.
func measured(a api.Anf) (parts, depth int) {
	parts = 1 + len(a.A) + len(a.R.A)
	for _, k := range a.Kids {
		n, d := measured(k)
		parts, depth = parts+n, max(depth, d)
	}
	return parts, depth + 1
}

// once reports whether no variable and no join is bound twice, and all variables are such as they may be.
func once(a api.Anf) bool {
	var xs []int
	var ns []int64
	each(a, func(a api.Anf) {
		switch a.Kind {
		case api.AnfLet:
			xs = append(xs, a.X)
		case api.AnfJoin:
			xs = append(xs, a.Xs...)
			ns = append(ns, int64(a.N))
		}
	})
	slices.Sort(xs)
	slices.Sort(ns)
	return increasing(ns) && len(slices.Compact(slices.Clone(xs))) == len(xs) && (len(xs) == 0 || xs[0] >= 2 && xs[len(xs)-1] <= 1<<20)
}

type judge struct {
	p    api.Prog
	caps int
}

// anf reports whether an Anf is valid where some variables are visible, and jumps may go to some joins.
func (j judge) anf(a api.Anf, seen []int64, joins []api.Anf) bool {
	f, known := anfForms[a.Kind]
	if !known || !f.fits(a, len(a.A), len(a.Kids)) || !j.atoms(a.A, seen) {
		return false
	}
	with := func(xs ...int) []int64 { // What is added is overwritten when nothing sees it any more.
		l := seen
		for _, x := range xs {
			l = append(l, int64(x))
		}
		return l
	}
	switch a.Kind {
	case api.AnfLet:
		return j.step(a.R, seen) && j.anf(a.Kids[0], with(a.X), joins)
	case api.AnfSwitch:
		if len(a.Ns) == 0 || !increasing(a.Ns) || len(a.Kids) != len(a.Ns)+1 {
			return false
		}
	case api.AnfJoin:
		return j.anf(a.Kids[0], with(a.Xs...), joins) && j.anf(a.Kids[1], seen, append(joins, a))
	case api.AnfJump:
		return slices.ContainsFunc(joins, func(b api.Anf) bool { return b.N == a.N && len(b.Xs) == len(a.A) })
	}
	for _, k := range a.Kids {
		if !j.anf(k, seen, joins) {
			return false
		}
	}
	return true
}

func (j judge) atoms(l []api.Atom, seen []int64) bool {
	for _, a := range l {
		switch {
		case a.Kind == api.AtomVar && slices.Contains(seen, a.N):
		case a.Kind == api.AtomNum && a.N >= -1<<62 && a.N <= 1<<62-1:
		case a.Kind == api.AtomText && a.N >= 0 && a.N < int64(len(j.p.Texts)):
		default:
			return false
		}
	}
	return true
}

func (j judge) step(s api.Step, seen []int64) bool {
	f, known := stepForms[s.Kind]
	if !known || !f.fits(s, len(s.A), 0) || !j.atoms(s.A, seen) {
		return false
	}
	is := func(n int64, count int) bool { return n >= 0 && n < int64(count) }
	switch s.Kind {
	case api.StepOp:
		return operations[s.N] != "" && len(operations[s.N]) == len(s.A)
	case api.StepClosure:
		return is(s.N, len(j.p.Funcs)) && j.p.Funcs[s.N].Caps == len(s.A)
	case api.StepKnown:
		return is(s.N, len(j.p.Funcs))
	case api.StepCapture:
		return is(s.N, j.caps)
	case api.StepWith, api.StepField:
		return is(s.N, len(j.p.Labels))
	case api.StepTag:
		return is(s.N, len(j.p.Tags))
	case api.StepRecord:
		return increasing(s.Ns) && len(s.Ns) == len(s.A) && !slices.ContainsFunc(s.Ns, func(n int64) bool { return !is(n, len(j.p.Labels)) })
	}
	return true
}

// And what comes of a program that is run: functions call each other, what raises or ends the run panics, and a value has the
// fields of all kinds.
type model struct {
	p     api.Prog
	fuel  int64
	input []byte
	out   []byte
}

// A thing is a value: kind is n, s, f, r, t, p or a.
type thing struct {
	kind   byte
	n      int64 // a number, a function, a tag
	s      string
	fields map[int64]thing
	cells  *[]thing // what is captured, tagged, or in a reference or an array
}

type raised int64 // an exception

type over int // the kind of an outcome

// modelled returns what Run should return.
func modelled(p api.Prog, kind int, input string, fuel int64) (o api.Outcome) {
	if !valid(p) {
		return stuck("")
	}
	m := &model{p: p, fuel: max(fuel, 0), input: []byte(input)}
	defer func() {
		o.Out = string(m.out)
		switch r := recover().(type) {
		case nil:
		case raised:
			o.Kind, o.Result = api.Done, "raise "+p.Exns[r]
		case over:
			o.Kind, o.Result = int(r), ""
		default:
			panic(r)
		}
	}()
	x := m.call(thing{kind: 'f', cells: &[]thing{}}, thing{kind: 'n'})
	o.Kind, o.Result = api.Done, m.text(x, kind)
	return o
}

func (m *model) text(x thing, kind int) string {
	if x.kind == 's' {
		b := `"`
		for _, c := range []byte(x.s) {
			switch {
			case c == '"' || c == '\\':
				b += `\` + string(rune(c))
			case c == '\n':
				b += `\n`
			case c < 32 || c > 126:
				b += fmt.Sprintf(`\x%02x`, c)
			default:
				b += string(rune(c))
			}
		}
		return b + `"`
	}
	if x.kind != 'n' {
		return map[byte]string{'f': "<fun>", 'r': "<record>", 't': "<tag>", 'p': "<ref>", 'a': "<array>"}[x.kind]
	}
	switch kind {
	case api.TyBool:
		return fmt.Sprint(x.n != 0)
	case api.TyUnit:
		return "()"
	case api.TyExn:
		if x.n < 0 || x.n >= int64(len(m.p.Exns)) {
			panic(over(api.Stuck))
		}
		return m.p.Exns[x.n]
	}
	return fmt.Sprint(x.n)
}

// ask ends the run where a value is of another kind.
func (x thing) ask(kind byte) thing {
	if x.kind != kind {
		panic(over(api.Stuck))
	}
	return x
}

// An activation is a function that has been called. Joins are functions of their own here.
type activation struct {
	m     *model
	vars  map[int64]thing
	joins map[int]func([]thing) thing
}

func (m *model) call(f, x thing) thing {
	f.ask('f')
	a := activation{m, map[int64]thing{0: f, 1: x}, map[int]func([]thing) thing{}}
	return a.anf(m.p.Funcs[f.n].Body)
}

func (c activation) atom(a api.Atom) thing {
	switch a.Kind {
	case api.AtomVar:
		return c.vars[a.N]
	case api.AtomNum:
		return thing{kind: 'n', n: a.N}
	}
	return thing{kind: 's', s: c.m.p.Texts[a.N]}
}

func (c activation) atoms(l []api.Atom) []thing {
	var m []thing
	for _, a := range l {
		m = append(m, c.atom(a))
	}
	return m
}

func (c activation) anf(a api.Anf) thing {
	if c.m.fuel == 0 {
		panic(over(api.Fuel))
	}
	c.m.fuel--
	l := c.atoms(a.A)
	switch a.Kind {
	case api.AnfLet:
		c.vars[int64(a.X)] = c.step(a.R, c.atoms(a.R.A))
		return c.anf(a.Kids[0])
	case api.AnfRet:
		return l[0]
	case api.AnfTail:
		return c.m.call(l[0], l[1])
	case api.AnfRaise:
		if n := l[0].ask('n').n; n >= 0 && n < int64(len(c.m.p.Exns)) {
			panic(raised(n))
		}
		panic(over(api.Stuck))
	case api.AnfIf:
		if l[0].ask('n').n != 0 {
			return c.anf(a.Kids[0])
		}
		return c.anf(a.Kids[1])
	case api.AnfSwitch:
		i := slices.Index(a.Ns, l[0].ask('n').n)
		if i < 0 {
			i = len(a.Ns)
		}
		return c.anf(a.Kids[i])
	case api.AnfJoin:
		c.joins[a.N] = func(l []thing) thing {
			for i, x := range a.Xs {
				c.vars[int64(x)] = l[i]
			}
			return c.anf(a.Kids[0])
		}
		return c.anf(a.Kids[1])
	}
	return c.joins[a.N](l)
}

func (c activation) step(s api.Step, l []thing) thing {
	truth := func(b bool) thing {
		if b {
			return thing{kind: 'n', n: 1}
		}
		return thing{kind: 'n'}
	}
	switch s.Kind {
	case api.StepMove:
		return l[0]
	case api.StepOp:
		return c.m.op(s.N, l)
	case api.StepCall:
		return c.m.call(l[0], l[1])
	case api.StepKnown:
		if l[0].ask('f').n != s.N {
			panic(over(api.Stuck))
		}
		return c.m.call(l[0], l[1])
	case api.StepClosure:
		return thing{kind: 'f', n: s.N, cells: &l}
	case api.StepCapture:
		return (*c.vars[0].cells)[s.N]
	case api.StepRecord:
		r := thing{kind: 'r', fields: map[int64]thing{}}
		for i, n := range s.Ns {
			r.fields[n] = l[i]
		}
		return r
	case api.StepWith:
		r := thing{kind: 'r', fields: map[int64]thing{s.N: l[1]}}
		for n, x := range l[0].ask('r').fields {
			if n != s.N {
				r.fields[n] = x
			}
		}
		return r
	case api.StepField:
		if x, ok := l[0].ask('r').fields[s.N]; ok {
			return x
		}
		panic(over(api.Stuck))
	case api.StepTag:
		return thing{kind: 't', n: s.N, cells: &l}
	case api.StepTagOf:
		return thing{kind: 'n', n: l[0].ask('t').n}
	case api.StepUntag:
		return (*l[0].ask('t').cells)[0]
	case api.StepSame:
		return truth(l[0].ask('s').s == l[1].ask('s').s)
	}
	l[0].ask('f')
	l[1].ask('f')
	return c.m.try(l[0], l[1])
}

func (m *model) try(f, g thing) (x thing) {
	caught, exn := false, thing{kind: 'n'}
	func() {
		defer func() {
			switch r := recover().(type) {
			case nil:
			case raised:
				caught, exn.n = true, int64(r)
			default:
				panic(r)
			}
		}()
		x = m.call(f, thing{kind: 'n'})
	}()
	if caught {
		return m.call(g, exn)
	}
	return x
}

// wrapped brings a number into 63 bits.
func wrapped(n *big.Int) thing {
	half := new(big.Int).Lsh(big.NewInt(1), 62)
	n = new(big.Int).Add(n, half)
	n.Mod(n, new(big.Int).Lsh(big.NewInt(1), 63))
	return thing{kind: 'n', n: n.Sub(n, half).Int64()}
}

func (m *model) raise(name string) { panic(raised(slices.Index(m.p.Exns, name))) }

func (m *model) op(op int64, l []thing) thing {
	for i, k := range []byte(operations[op]) {
		if k != '*' {
			l[i].ask(k)
		}
	}
	a, b := big.NewInt(l[0].n), big.NewInt(l[len(l)-1].n)
	is := func(b bool) thing {
		if b {
			return thing{kind: 'n', n: 1}
		}
		return thing{kind: 'n'}
	}
	switch op {
	case api.OpAdd:
		return wrapped(a.Add(a, b))
	case api.OpSub:
		return wrapped(a.Sub(a, b))
	case api.OpMul:
		return wrapped(a.Mul(a, b))
	case api.OpNeg:
		return wrapped(a.Neg(a))
	case api.OpDiv, api.OpRem:
		if l[1].n == 0 {
			m.raise("Divide")
		}
		quotient, rest := a.QuoRem(a, b, new(big.Int))
		if op == api.OpDiv {
			return wrapped(quotient)
		}
		return wrapped(rest)
	case api.OpEq:
		return is(l[0].n == l[1].n)
	case api.OpLt:
		return is(l[0].n < l[1].n)
	case api.OpNot:
		return is(l[0].n == 0)
	case api.OpRef:
		return thing{kind: 'p', cells: &[]thing{l[0]}}
	case api.OpDeref:
		return (*l[0].cells)[0]
	case api.OpAssign:
		(*l[0].cells)[0] = l[1]
	case api.OpArray:
		if l[0].n < 0 || l[0].n > 256 {
			m.raise("Size")
		}
		cells := slices.Repeat([]thing{l[1]}, int(l[0].n))
		return thing{kind: 'a', cells: &cells}
	case api.OpGet, api.OpSet:
		cells := *l[0].cells
		if l[1].n < 0 || l[1].n >= int64(len(cells)) {
			m.raise("Bounds")
		}
		if op == api.OpGet {
			return cells[l[1].n]
		}
		cells[l[1].n] = l[2]
	case api.OpLen:
		return thing{kind: 'n', n: int64(len(*l[0].cells))}
	case api.OpSize:
		return thing{kind: 'n', n: int64(len(l[0].s))}
	case api.OpByte:
		if l[1].n < 0 || l[1].n >= int64(len(l[0].s)) {
			m.raise("Bounds")
		}
		return thing{kind: 'n', n: int64(l[0].s[l[1].n])}
	case api.OpCat:
		if len(l[0].s)+len(l[1].s) > 4096 {
			m.raise("Size")
		}
		return thing{kind: 's', s: l[0].s + l[1].s}
	case api.OpGetc:
		if len(m.input) == 0 {
			return thing{kind: 'n', n: -1}
		}
		c := m.input[0]
		m.input = m.input[1:]
		return thing{kind: 'n', n: int64(c)}
	case api.OpPutc:
		m.out = append(m.out, byte(((l[0].n%256)+256)%256))
	}
	return thing{kind: 'n'}
}
