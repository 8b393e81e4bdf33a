package resolve_test

import (
	"fmt"
	"math/rand"
	"reflect"
	"runtime/debug"
	"slices"
	"strings"
	"sync"
	"testing"
	"unsafe"

	"marquetry/api"
	"marquetry/resolve"
)

// TestP1_Huge: neither what is deeper than calls can be nor what contains itself stops a call.
func TestP1_Huge(t *testing.T) {
	defer debug.SetMaxStack(debug.SetMaxStack(8 << 20))
	e := api.Expr{Kind: api.EVar, Name: "x"}
	for range 1 << 17 {
		e = api.Expr{Kind: api.ERaise, Args: []api.Expr{e}}
	}
	fails(t, e, api.ErrMany, 0)
	loop := api.Expr{Kind: api.EApp, At: 3, Args: make([]api.Expr, 2)}
	loop.Args[0], loop.Args[1] = loop, loop
	if _, errno, at := resolve.Resolve(loop); errno != api.ErrMany || at != 0 {
		t.Errorf("%d at %d", errno, at)
	}
	for _, x := range loops() {
		if resolve.May(x) {
			t.Error("what contains itself is valid")
		}
	}
	if resolve.May(tower(1<<17, unit)) || resolve.May(on(tags(1<<17, api.TPat{Kind: api.PAny}))) {
		t.Error("what is too deep is valid")
	}
	// Each level has two of the next: far too many parts, although none is deep.
	double := unit
	for range 100 {
		double = term(api.TApp, double, double)
	}
	p := api.TPat{Kind: api.PAny}
	for range 100 {
		p = api.TPat{Kind: api.PRecord, Labels: []string{"a", "b"}, Args: []api.TPat{p, p}}
	}
	if resolve.May(double) || resolve.May(on(p)) {
		t.Error("what has too many parts is valid")
	}
	if resolve.May(api.Term{Kind: api.TRecord, Labels: make([]string, 1<<22)}) || resolve.May(api.Term{Kind: api.TUnit, Cases: make([]api.Case, 1<<16)}) {
		t.Error("what has too many fields is valid")
	}
}

// loops are terms that contain themselves, one way each.
func loops() []api.Term {
	x := term(api.TRaise, unit)
	x.Args[0] = x
	y := match(api.Case{P: api.TPat{Kind: api.PAny}, Body: unit})
	y.Cases[0].Body = y
	p := tags(1, api.TPat{})
	p.Args[0] = p
	two := term(api.TApp, unit, unit)
	two.Args[0], two.Args[1] = two, two
	f := binding(api.TFun, 1, unit)
	f.Args[0] = f
	return []api.Term{x, y, on(p), two, f}
}

// TestP1_OwnMemory: no string and no list of a term is one of the expression's, or one of its own twice.
func TestP1_OwnMemory(t *testing.T) {
	text := func(s string) string { return strings.Repeat(s, 50) }
	one := []api.Expr{{Kind: api.EString, S: text("s")}}
	labels := []string{text("l"), text("m")}
	leaf := api.Expr{Kind: api.EExn, Name: text("E")}
	pat := api.Pat{Kind: api.PRecord, Labels: labels, Args: []api.Pat{{Kind: api.PString, S: text("p")}, {Kind: api.PTag, Name: text("T"), Args: []api.Pat{{Kind: api.PExn, Name: text("P")}}}}}
	arms := []api.Arm{{P: pat, Body: leaf}, {P: pat, Body: leaf}}
	e := api.Expr{Kind: api.ERecord, Labels: labels, Args: []api.Expr{
		{Kind: api.EApp, Args: []api.Expr{{Kind: api.ETag, Name: text("T"), Args: one}, {Kind: api.EField, Name: text("f"), Args: one}}},
		{Kind: api.EIf, Args: []api.Expr{{Kind: api.EMatch, Args: one, Arms: arms}, {Kind: api.ETry, Args: one, Arms: arms}, {Kind: api.EWith, Name: text("w"), Args: []api.Expr{{Kind: api.EAnd, Args: []api.Expr{leaf, leaf}}, {Kind: api.EOr, Args: []api.Expr{leaf, leaf}}}}}},
	}}
	x, errno, at := resolve.Resolve(e)
	if want, _, _ := resolved(e); errno != api.OK || at != 0 || !same(x, want) {
		t.Fatalf("%d at %d", errno, at)
	}
	again, _, _ := resolve.Resolve(e)
	seen := map[unsafe.Pointer]bool{}
	visited := 0
	var walk func(v reflect.Value, mine bool)
	note := func(p unsafe.Pointer, mine bool) {
		if seen[p] && mine {
			t.Error("shared memory")
		}
		seen[p] = true
		visited++
	}
	walk = func(v reflect.Value, mine bool) {
		switch v.Kind() {
		case reflect.String:
			if s := v.String(); s != "" {
				note(unsafe.Pointer(unsafe.StringData(s)), mine)
			}
		case reflect.Slice:
			if v.Len() > 0 {
				note(v.UnsafePointer(), mine)
			}
			for i := range v.Len() {
				walk(v.Index(i), mine)
			}
		case reflect.Struct:
			for i := range v.NumField() {
				walk(v.Field(i), mine)
			}
		}
	}
	walk(reflect.ValueOf(e), false)
	if visited < 40 {
		t.Errorf("%d pieces of memory only", visited)
	}
	walk(reflect.ValueOf(x), true)
	walk(reflect.ValueOf(again), true)
	// What is passed may be changed afterwards.
	before := dump(x)
	one[0].S, labels[0], arms[0].P.Args[0].S = "z", "z", "z"
	arms[0].P.Args[1].Args[0].Name = "Z"
	if dump(x) != before {
		t.Error("another term")
	}
}

// copied returns an expression in memory of its own.
func copied(e api.Expr) api.Expr {
	e.Labels, e.Args, e.Arms = slices.Clone(e.Labels), slices.Clone(e.Args), slices.Clone(e.Arms)
	for i, a := range e.Args {
		e.Args[i] = copied(a)
	}
	for i, a := range e.Arms {
		e.Arms[i] = api.Arm{P: copiedPat(a.P), Body: copied(a.Body)}
	}
	return e
}

func copiedPat(p api.Pat) api.Pat {
	p.Labels, p.Args = slices.Clone(p.Labels), slices.Clone(p.Args)
	for i, a := range p.Args {
		p.Args[i] = copiedPat(a)
	}
	return p
}

// TestP1_Rules: no call panics, an error leaves nothing else, nothing that is passed is changed, and neither earlier calls
// nor others at the same time change a result.
func TestP1_Rules(t *testing.T) {
	type result struct {
		term  api.Term
		errno api.Errno
		at    int
		may   bool
	}
	run := func() []result {
		m := maker{rand.New(rand.NewSource(1))}
		var l []result
		for i := range 4000 {
			e := m.expr(1+i/800, nil)
			if m.Intn(4) == 0 && len(e.Args) > 0 {
				e.Args = e.Args[1:]
			}
			before := copied(e)
			var x result
			x.term, x.errno, x.at = resolve.Resolve(e)
			if !reflect.DeepEqual(e, before) {
				t.Errorf("%+v: changed", e)
			}
			if x.errno != api.OK && !isZero(x.term) || x.errno == api.OK && x.at != 0 {
				t.Errorf("%+v: %+v", e, x)
			}
			y, _, _ := resolve.Resolve(e)
			for range m.Intn(3) {
				m.spoil(&y)
			}
			text := fmt.Sprintf("%+v", y)
			x.may = resolve.May(y)
			if fmt.Sprintf("%+v", y) != text {
				t.Errorf("%s: changed", text)
			}
			l = append(l, x)
		}
		return l
	}
	first := run()
	errors := map[api.Errno]int{}
	for _, x := range first {
		errors[x.errno]++
	}
	for _, errno := range []api.Errno{api.OK, api.ErrForm, api.ErrName, api.ErrTwice} {
		if errors[errno] == 0 {
			t.Errorf("no call returned %d", errno)
		}
	}
	var wait sync.WaitGroup
	for range 4 {
		wait.Go(func() {
			if again := run(); !reflect.DeepEqual(again, first) {
				t.Error("another result")
			}
		})
	}
	wait.Wait()
}
