package match_test

import (
	"fmt"
	"reflect"
	"strings"
	"testing"

	"marquetry/api"
	"marquetry/match"
)

var (
	wild = api.TPat{Kind: api.PAny}
	unit = api.TPat{Kind: api.PUnit}
	fail = api.Tree{Kind: api.TreeFail}
)

func num(n int64) api.TPat { return api.TPat{Kind: api.PInt, N: n} }

func truth(n int64) api.TPat { return api.TPat{Kind: api.PBool, N: n} }

func text(s string) api.TPat { return api.TPat{Kind: api.PString, S: s} }

func exn(s string) api.TPat { return api.TPat{Kind: api.PExn, S: s} }

func x(v int) api.TPat { return api.TPat{Kind: api.PVar, V: v} }

func tag(s string, p api.TPat) api.TPat {
	return api.TPat{Kind: api.PTag, S: s, Args: []api.TPat{p}}
}

// rec returns a record: each word of the labels is for one of the patterns.
func rec(labels string, l ...api.TPat) api.TPat {
	return api.TPat{Kind: api.PRecord, Labels: strings.Fields(labels), Args: l}
}

// path returns a path: its steps are words, and a "-" stands for the empty one.
func path(s string) []string {
	l := strings.Fields(s)
	for i := range l {
		if l[i] == "-" {
			l[i] = ""
		}
	}
	return l
}

func bind(v int, at string) api.Bind { return api.Bind{V: v, Path: path(at)} }

func leaf(n int, l ...api.Bind) api.Tree { return api.Tree{Kind: api.TreeLeaf, Case: n, Binds: l} }

// on returns the branch of a constant, or of a pattern's tag.
func on(p api.TPat, t api.Tree) api.Branch {
	p.Args = nil
	return api.Branch{P: p, T: t}
}

func test(at string, other api.Tree, l ...api.Branch) api.Tree {
	return api.Tree{Kind: api.TreeTest, Path: path(at), Branches: l, Else: []api.Tree{other}}
}

func bare[T any](l []T) []T { return append([]T(nil), l...) }

// plain returns a copy of a tree in which empty lists are nil, so that reflect.DeepEqual asks what matters.
func plain(t api.Tree) api.Tree {
	t.Path, t.Binds, t.Branches, t.Else = bare(t.Path), bare(t.Binds), bare(t.Branches), bare(t.Else)
	for i, b := range t.Binds {
		t.Binds[i].Path = bare(b.Path)
	}
	for i, b := range t.Branches {
		t.Branches[i] = api.Branch{P: plainPat(b.P), T: plain(b.T)}
	}
	for i, e := range t.Else {
		t.Else[i] = plain(e)
	}
	return t
}

func plainPat(p api.TPat) api.TPat {
	p.Labels, p.Args = bare(p.Labels), bare(p.Args)
	for i, a := range p.Args {
		p.Args[i] = plainPat(a)
	}
	return p
}

func same(a, b api.Tree) bool { return reflect.DeepEqual(plain(a), plain(b)) }

func samePats(a, b []api.TPat) bool {
	return reflect.DeepEqual(plainPat(rec("", a...)), plainPat(rec("", b...)))
}

// compiled returns the tree of patterns that have one.
func compiled(t *testing.T, l ...api.TPat) api.Tree {
	t.Helper()
	tree, e := match.Compile(l)
	if e != api.OK {
		t.Fatalf("%.300s: %d", fmt.Sprintf("%+v", l), e)
	}
	return tree
}

// is fails if the tree of some patterns is another one.
func is(t *testing.T, want api.Tree, l ...api.TPat) {
	t.Helper()
	if got := compiled(t, l...); !same(got, want) {
		t.Errorf("%+v:\n%+v, not\n%+v", l, got, want)
	}
}

func TestExamples(t *testing.T) {
	is(t, leaf(0, bind(7, "")), x(7))
	is(t, test("", leaf(2),
		on(tag("A", wild), test("-", leaf(2), on(num(1), leaf(0)))),
		on(tag("B", wild), leaf(1, bind(7, "-")))),
		tag("A", num(1)), tag("B", x(7)), wild)
	is(t, test("a", test("b", fail, on(num(3), leaf(1))),
		on(num(1), test("b", fail, on(num(2), leaf(0)), on(num(3), leaf(1))))),
		rec("a b", num(1), num(2)), rec("b", num(3)))
}

// TestP12_1_Simple: patterns that need no test, and what they bind.
func TestP12_1_Simple(t *testing.T) {
	is(t, fail)
	is(t, leaf(0), wild)
	is(t, leaf(0), unit)
	is(t, leaf(0), rec(""))
	is(t, leaf(0, bind(0, "")), x(0))
	is(t, leaf(0), wild, x(1), num(1))
	is(t, leaf(0, bind(5, "a"), bind(4, "b")), rec("a b", x(5), x(4)))
	is(t, leaf(0, bind(5, "b"), bind(4, "a")), rec("b a", x(5), x(4)))
	is(t, leaf(0, bind(1, "b c"), bind(2, "b a"), bind(3, "a")), rec("b d a", rec("c d a", x(1), unit, x(2)), wild, x(3)))
	is(t, leaf(0, bind(1, "a a a")), rec("a", rec("a", rec("a", x(1)))))
	// Variables are not checked: any number may stand for one, and any number of times.
	is(t, leaf(0, bind(-1, "a"), bind(-1, "b"), bind(1<<20+1, "c")), rec("a b c", x(-1), x(-1), x(1<<20+1)))
}

// TestP12_1_Branches: which branches a test has, and in which order.
func TestP12_1_Branches(t *testing.T) {
	for _, p := range []api.TPat{num(0), num(-1 << 62), num(1<<62 - 1), text(""), text("\xff\x00"), truth(0), truth(1), exn("Foo"), tag("Foo", wild)} {
		is(t, test("", fail, on(p, leaf(0))), p)
		is(t, test("", leaf(1, bind(3, "")), on(p, leaf(0))), p, x(3))
		is(t, test("", fail, on(p, leaf(0))), p, p, p)
	}
	is(t, test("", fail, on(num(2), leaf(0)), on(num(-1), leaf(1)), on(num(1), leaf(3))), num(2), num(-1), num(2), num(1), num(-1))
	is(t, test("", fail, on(text("b"), leaf(0)), on(text("a"), leaf(1)), on(text(""), leaf(2))), text("b"), text("a"), text(""))
	is(t, test("", fail, on(num(1), leaf(0)), on(truth(1), leaf(1)), on(text("E"), leaf(2)), on(exn("E"), leaf(3)), on(tag("E", wild), leaf(4))),
		num(1), truth(1), text("E"), exn("E"), tag("E", wild))
	is(t, test("", fail, on(tag("E", wild), leaf(0)), on(exn("E"), leaf(1)), on(text("E"), leaf(2)), on(truth(0), leaf(4)), on(num(0), leaf(5))),
		tag("E", wild), exn("E"), text("E"), tag("E", unit), truth(0), num(0))
	// There are branches for the rows to which nothing comes, too.
	is(t, test("", leaf(1), on(num(1), leaf(0)), on(num(2), leaf(1)), on(tag("A", wild), leaf(1))), num(1), wild, num(2), wild, tag("A", num(3)))
	is(t, test("a", leaf(1), on(num(1), leaf(0)), on(tag("A", wild), leaf(1))), rec("a", num(1)), unit, rec("b a", tag("B", wild), tag("A", num(3))))
}

// TestP12_1_Rows: which rows a branch and Else go on with, and what is tested next.
func TestP12_1_Rows(t *testing.T) {
	is(t, test("a", test("b", fail, on(num(1), leaf(1))),
		on(num(2), test("b", fail, on(num(1), leaf(0)))),
		on(num(1), test("b", leaf(2), on(num(1), leaf(1))))),
		rec("a b", num(2), num(1)), rec("b", num(1)), rec("a", num(1)))
	// The first condition of the first row is tested, whatever others have there.
	is(t, test("b", test("a", fail, on(num(1), test("b c", fail, on(num(5), leaf(1))))),
		on(num(1), leaf(0)),
		on(num(2), test("a", fail, on(num(1), test("b c", leaf(2), on(num(5), leaf(1))))))),
		rec("b", num(1)), rec("a b", num(1), rec("c", num(5))), rec("a b", num(1), num(2)))
	is(t, test("c", fail, on(num(1), test("b", fail, on(num(2), test("d e", fail, on(num(3), leaf(0, bind(4, "a"))))))),
		on(num(6), test("d", fail, on(num(7), leaf(1))))),
		rec("a c b d", x(4), num(1), num(2), rec("e", num(3))), rec("d c", num(7), num(6)))
	// Labels are what they are: none is taken for more than one step.
	nested := test("a b", fail, on(num(1), leaf(1)))
	odd := test("", nested, on(num(1), leaf(0)))
	for _, label := range []string{"ab", "a b", "a.b", "a/b", "a\x00b", "a,b"} {
		odd.Path = []string{label}
		is(t, odd, api.TPat{Kind: api.PRecord, Labels: []string{label}, Args: []api.TPat{num(1)}}, rec("a", rec("b", num(1))))
	}
}

// TestP12_1_Tags: the condition of what is tagged stands where that of the tag stood.
func TestP12_1_Tags(t *testing.T) {
	is(t, test("a", fail, on(tag("A", wild), test("a - p", fail, on(num(1), test("a - q", fail, on(num(2), test("b", fail, on(num(3), leaf(0))))))))),
		rec("a b", tag("A", rec("p q", num(1), num(2))), num(3)))
	is(t, test("b", fail, on(tag("B", wild), leaf(0)),
		on(tag("A", wild), test("a", fail, on(num(1), test("b -", fail, on(num(2), test("c", fail, on(num(3), leaf(1))))))))),
		rec("b", tag("B", wild)), rec("a b c", num(1), tag("A", num(2)), num(3)))
	is(t, test("", fail, on(tag("A", wild), test("-", fail, on(tag("A", wild), test("- -", fail, on(tag("A", wild), leaf(0, bind(1, "- - -")))))))),
		tag("A", tag("A", tag("A", x(1)))))
	// What is bound is bound when it is reached: within a tag, after that has been tested.
	is(t, test("a", fail, on(tag("A", wild), leaf(0, bind(2, "b"), bind(1, "a -")))), rec("a b", tag("A", x(1)), x(2)))
	is(t, test("a", fail, on(tag("A", wild), test("a - q", fail, on(tag("B", wild), leaf(0, bind(5, "b"), bind(1, "a - p"), bind(3, "a - r"), bind(2, "a - q -")))))),
		rec("a b", tag("A", rec("p q r", x(1), tag("B", x(2)), x(3))), x(5)))
	// Two branches of one row bind, each for itself.
	is(t, test("a", leaf(2, bind(6, "z"), bind(7, "y")),
		on(tag("A", wild), leaf(0, bind(1, "a -"))),
		on(tag("B", wild), leaf(1, bind(2, "z"), bind(3, "y"), bind(4, "a - p"), bind(5, "a - q")))),
		rec("a", tag("A", x(1))), rec("z a y", x(2), tag("B", rec("p q", x(4), x(5))), x(3)), rec("z y", x(6), x(7)))
}
