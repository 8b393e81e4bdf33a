package show_test

import (
	"fmt"
	"math/rand"
	"reflect"
	"strings"
	"testing"

	"marquetry/api"
	"marquetry/parse"
	"marquetry/show"
	"marquetry/word"
)

// signs are the operations' symbols and keywords.
var signs = []string{"", "+", "-", "*", "/", "%", "-", "=", "<", "not", "ref", "!", ":=", "array", "get", "set", "len", "size", "byte", "cat", "getc", "putc"}

// operands are the numbers of operands that operations have.
var operands = []int{0, 2, 2, 2, 2, 2, 1, 2, 2, 1, 1, 1, 2, 2, 2, 3, 1, 1, 2, 2, 1, 1}

func at(l []string, i int) string {
	if i < len(l) {
		return l[i]
	}
	return ""
}

// said writes an expression as the chapter's table has it. What is not printable is written all the same, as something else.
func said(e api.Expr) string {
	var args, fields, arms []string
	for i, a := range e.Args {
		args = append(args, said(a))
		fields = append(fields, at(e.Labels, i)+" = "+said(a))
	}
	for _, a := range e.Arms {
		arms = append(arms, saidPat(a.P)+" -> "+said(a.Body))
	}
	a, b, c := at(args, 0), at(args, 1), at(args, 2)
	cases := a + " with " + strings.Join(arms, " | ") + " end)"
	switch e.Kind {
	case api.EVar, api.EExn:
		return e.Name
	case api.EInt:
		return word.Text(e.N)
	case api.EString:
		return word.Quote(e.S)
	case api.EBool:
		return fmt.Sprint(e.N == 1)
	case api.EUnit:
		return "()"
	case api.EFun:
		return "(fun " + e.Name + " -> " + a + ")"
	case api.EApp:
		return "(" + a + " " + b + ")"
	case api.ELet:
		return "(let " + e.Name + " = " + a + " in " + b + ")"
	case api.ERec:
		return "(let rec " + e.Name + " = " + strings.TrimSuffix(strings.TrimPrefix(a, "("), ")") + " in " + b + ")"
	case api.EIf:
		return "(if " + a + " then " + b + " else " + c + ")"
	case api.ERecord:
		return "{" + strings.Join(fields, ", ") + "}"
	case api.EWith:
		return "{" + a + " with " + e.Name + " = " + b + "}"
	case api.EField:
		return a + "." + e.Name
	case api.ETag:
		return "(#" + e.Name + " " + a + ")"
	case api.EMatch:
		return "(match " + cases
	case api.ETry:
		return "(try " + cases
	case api.ERaise:
		return "(raise " + a + ")"
	case api.ESeq:
		return "(" + a + "; " + b + ")"
	case api.EAnd:
		return "(" + a + " && " + b + ")"
	case api.EOr:
		return "(" + a + " || " + b + ")"
	case api.EOp:
		return saidOp(e.N, a, b, c)
	}
	return "?"
}

func saidOp(n int64, a, b, c string) string {
	if n < 1 || n >= int64(len(signs)) {
		return "?"
	}
	switch sign := signs[n]; {
	case operands[n] == 3:
		return "(" + sign + " " + a + " " + b + " " + c + ")"
	case operands[n] == 1:
		return "(" + sign + " " + a + ")"
	case sign[0] >= 'a' && sign[0] <= 'z':
		return "(" + sign + " " + a + " " + b + ")"
	default:
		return "(" + a + " " + sign + " " + b + ")"
	}
}

func saidPat(p api.Pat) string {
	var args, fields []string
	for i, a := range p.Args {
		args = append(args, saidPat(a))
		fields = append(fields, at(p.Labels, i)+" = "+saidPat(a))
	}
	switch p.Kind {
	case api.PAny:
		return "_"
	case api.PVar, api.PExn:
		return p.Name
	case api.PInt:
		return word.Text(p.N)
	case api.PString:
		return word.Quote(p.S)
	case api.PBool:
		return fmt.Sprint(p.N == 1)
	case api.PUnit:
		return "()"
	case api.PTag:
		return "(#" + p.Name + " " + at(args, 0) + ")"
	case api.PRecord:
		return "{" + strings.Join(fields, ", ") + "}"
	}
	return "?"
}

// plain returns an expression without places, with memory of its own, and with nil for all that is empty.
func plain(e api.Expr) api.Expr {
	e.At = 0
	e.Labels = append([]string(nil), e.Labels...)
	var args []api.Expr
	for _, a := range e.Args {
		args = append(args, plain(a))
	}
	var arms []api.Arm
	for _, a := range e.Arms {
		arms = append(arms, api.Arm{P: plainPat(a.P), Body: plain(a.Body)})
	}
	e.Args, e.Arms = args, arms
	return e
}

func plainPat(p api.Pat) api.Pat {
	p.At = 0
	p.Labels = append([]string(nil), p.Labels...)
	var args []api.Pat
	for _, a := range p.Args {
		args = append(args, plainPat(a))
	}
	p.Args = args
	return p
}

// agree fails if Show does not do with an expression within the limits what the chapter says, and reports whether that
// is printable. It is if its text is read as the expression: if any text is, then this one.
func agree(t *testing.T, e api.Expr) bool {
	t.Helper()
	text := said(e)
	got, errno := show.Show(e)
	read, f, _ := parse.Parse(text)
	printable := f == api.OK && reflect.DeepEqual(plain(read), plain(e))
	if printable && (got != text || errno != api.OK) || !printable && (got != "" || errno != api.ErrForm) {
		t.Fatalf("%+v: %q, %d, want %q, %v", e, got, errno, text, printable)
	}
	return printable
}

// agreePat does the same for a pattern.
func agreePat(t *testing.T, p api.Pat) bool {
	t.Helper()
	text := saidPat(p)
	got, errno := show.Pattern(p)
	read, f, _ := parse.Parse("match x with " + text + " -> y end")
	printable := f == api.OK && len(read.Arms) == 1 && read.Arms[0].Body.Name == "y" && reflect.DeepEqual(plainPat(read.Arms[0].P), plainPat(p))
	if printable && (got != text || errno != api.OK) || !printable && (got != "" || errno != api.ErrForm) {
		t.Fatalf("%+v: %q, %d, want %q, %v", p, got, errno, text, printable)
	}
	return printable
}

// A maker makes random expressions and patterns.
type maker struct{ *rand.Rand }

func (m maker) one(l ...string) string { return l[m.Intn(len(l))] }

func (m maker) name() string { return m.one("x", "y", "_", "__", "f_9Z", "letx", "in0") }

func (m maker) upper() string { return m.one("A", "Foo", "T_1", "LET", "Zz") }

func (m maker) text() string {
	return m.one("", "a", "\"", "\\", "\n", "\x00\xff", "é -> (#A", "x\\\"")
}

func (m maker) number() int64 { return m.Int63n(1<<62) >> m.Intn(62) }

func (m maker) labels(n int) []string {
	var l []string
	for range n {
		l = append(l, m.name())
	}
	return l
}

func (m maker) exprs(n, depth int) []api.Expr {
	var l []api.Expr
	for range n {
		l = append(l, m.expr(depth-1))
	}
	return l
}

func (m maker) arms(n, depth int) []api.Arm {
	var l []api.Arm
	for range n {
		l = append(l, api.Arm{P: m.pat(depth - 1), Body: m.expr(depth - 1)})
	}
	return l
}

// simple are kinds of which nothing but the Name and the number of Args is to be said.
var simple = []struct {
	kind int
	name string
	args int
}{
	{api.EVar, "x", 0}, {api.EUnit, "", 0}, {api.EExn, "X", 0},
	{api.EFun, "x", 1}, {api.EApp, "", 2}, {api.ELet, "x", 2}, {api.EIf, "", 3}, {api.EWith, "x", 2}, {api.EField, "x", 1},
	{api.ETag, "X", 1}, {api.EMatch, "", 1}, {api.ETry, "", 1}, {api.ERaise, "", 1}, {api.ESeq, "", 2}, {api.EAnd, "", 2}, {api.EOr, "", 2},
}

func (m maker) expr(depth int) api.Expr {
	kinds := 16 + 6
	if depth <= 1 {
		kinds = 3 + 3
	}
	k := m.Intn(kinds)
	switch k {
	case 0:
		return api.Expr{Kind: api.EInt, At: m.Intn(9), N: m.number()}
	case 1:
		return api.Expr{Kind: api.EString, S: m.text()}
	case 2:
		return api.Expr{Kind: api.EBool, At: -m.Intn(9), N: m.Int63n(2)}
	case kinds - 1:
		if depth > 1 {
			n := m.Intn(4)
			return api.Expr{Kind: api.ERecord, Labels: m.labels(n), Args: m.exprs(n, depth)}
		}
	case kinds - 2:
		if depth > 1 {
			fun := api.Expr{Kind: api.EFun, Name: m.name(), Args: m.exprs(1, depth-1)}
			return api.Expr{Kind: api.ERec, Name: m.name(), Args: []api.Expr{fun, m.expr(depth - 1)}}
		}
	case kinds - 3:
		if depth > 1 {
			n := 1 + m.Intn(len(signs)-1)
			return api.Expr{Kind: api.EOp, N: int64(n), Args: m.exprs(operands[n], depth)}
		}
	}
	s := simple[max(0, k-3)]
	e := api.Expr{Kind: s.kind, At: m.Intn(99), Args: m.exprs(s.args, depth)}
	switch s.name {
	case "x":
		e.Name = m.name()
	case "X":
		e.Name = m.upper()
	}
	if s.kind == api.EMatch || s.kind == api.ETry {
		e.Arms = m.arms(1+m.Intn(3), depth)
	}
	return e
}

func (m maker) pat(depth int) api.Pat {
	k := m.Intn(9)
	if depth <= 1 {
		k = m.Intn(7)
	}
	p := api.Pat{Kind: api.PAny + k, At: m.Intn(99)}
	switch p.Kind {
	case api.PVar:
		p.Name = m.one("x", "y", "__", "_1")
	case api.PInt:
		p.N = m.number() * (1 - 2*m.Int63n(2))
	case api.PString:
		p.S = m.text()
	case api.PBool:
		p.N = m.Int63n(2)
	case api.PExn:
		p.Name = m.upper()
	case api.PTag:
		p.Name = m.upper()
		p.Args = []api.Pat{m.pat(depth - 1)}
	case api.PRecord:
		for range m.Intn(4) {
			p.Args = append(p.Args, m.pat(depth-1))
		}
		p.Labels = m.labels(len(p.Args))
	}
	return p
}

// anyNumber and anyName are what may be wrong where they come to stand.
func (m maker) anyNumber() int64 {
	return []int64{-1 << 63, -1 << 62, 1 - 1<<62, -1, 0, 1, 2, 6, 15, 21, 22, 1<<32 + 1, 1<<62 - 1, 1 << 62, 1<<63 - 1}[m.Intn(15)]
}

func (m maker) anyName() string {
	return m.one("", "x", "_", "A", "in", "true", "1", "a b", "a.b", "(x)", " x", "é", "xé", "Aé", "A b", "#A", "x\x00", "\"s\"", "()", "-1")
}

// spoil changes a field of some part of an expression.
func (m maker) spoil(e *api.Expr) {
	if n := len(e.Args) + len(e.Arms); n > 0 && m.Intn(3) > 0 {
		i := m.Intn(n)
		switch {
		case i < len(e.Args):
			m.spoil(&e.Args[i])
		case m.Intn(2) > 0:
			m.spoil(&e.Arms[i-len(e.Args)].Body)
		default:
			m.spoilPat(&e.Arms[i-len(e.Args)].P)
		}
		return
	}
	switch m.Intn(9) {
	case 0:
		e.Kind = m.Intn(26) - 1
	case 1, 2:
		e.Name = m.anyName()
	case 3:
		e.N = m.anyNumber()
	case 4:
		e.S = m.text()
	case 5:
		e.Labels = m.spoilLabels(e.Labels)
	case 6:
		e.Args = append(e.Args, m.expr(1))
	case 7:
		e.Args = e.Args[:len(e.Args)/2]
	case 8:
		e.Arms = append(e.Arms, m.arms(1, 1)...)[:m.Intn(len(e.Arms)+2)]
	}
}

func (m maker) spoilPat(p *api.Pat) {
	if len(p.Args) > 0 && m.Intn(3) > 0 {
		m.spoilPat(&p.Args[m.Intn(len(p.Args))])
		return
	}
	switch m.Intn(7) {
	case 0:
		p.Kind = m.Intn(12) - 1
	case 1:
		p.Name = m.anyName()
	case 2:
		p.N = m.anyNumber()
	case 3:
		p.S = m.text()
	case 4:
		p.Labels = m.spoilLabels(p.Labels)
	case 5:
		p.Args = append(p.Args, m.pat(1))
	case 6:
		p.Args = p.Args[:len(p.Args)/2]
	}
}

func (m maker) spoilLabels(l []string) []string {
	switch {
	case len(l) == 0 || m.Intn(4) == 0:
		return append(l, m.anyName())
	case m.Intn(3) == 0:
		return l[1:]
	}
	l[m.Intn(len(l))] = m.anyName()
	return l
}

// small reports whether an expression is within all limits.
func small(e api.Expr) bool {
	return len(said(e)) <= api.MaxSource && parse.Count(e, api.MaxNodes) <= api.MaxNodes
}

func TestP7_1_Random(t *testing.T) {
	m := maker{rand.New(rand.NewSource(7))}
	kinds := map[int]int{}
	for i := range 20000 {
		e := m.expr(1 + i/4000)
		if !small(e) {
			continue
		}
		kinds[e.Kind]++
		if !agree(t, e) {
			t.Fatalf("%+v is printable", e)
		}
		for range m.Intn(4) {
			m.spoil(&e)
		}
		if small(e) {
			agree(t, e)
		}
	}
	for k := api.EVar; k <= api.EOr; k++ {
		if kinds[k] == 0 {
			t.Errorf("none of kind %d", k)
		}
	}
}

func TestP7_2_Random(t *testing.T) {
	m := maker{rand.New(rand.NewSource(8))}
	for i := range 20000 {
		p := m.pat(1 + i/4000)
		if len(saidPat(p)) > api.MaxSource-30 {
			continue
		}
		if !agreePat(t, p) {
			t.Fatalf("%+v is printable", p)
		}
		for range m.Intn(3) {
			m.spoilPat(&p)
		}
		if len(saidPat(p)) <= api.MaxSource-30 {
			agreePat(t, p)
		}
	}
}

// shapes are numbers of Args, Labels and Arms; whether the first of the Args is a function.
func shapes(visit func(args []api.Expr, labels []string, arms []api.Arm)) {
	leaf := api.Expr{Kind: api.EVar, Name: "a"}
	fun := api.Expr{Kind: api.EFun, Name: "b", Args: []api.Expr{leaf}}
	for n := range 5 {
		args := make([]api.Expr, n)
		for i := range args {
			args[i] = leaf
		}
		for m := range 4 {
			labels := []string{"k", "l", "k"}[:m]
			visit(args, labels, nil)
			visit(args, labels, []api.Arm{{P: api.Pat{Kind: api.PAny}, Body: leaf}})
			if n > 0 {
				visit(append([]api.Expr{fun}, args[1:]...), labels, nil)
			}
		}
	}
}

// TestP7_1_AllShapes: all kinds with all combinations of a few values for each field.
func TestP7_1_AllShapes(t *testing.T) {
	texts := map[string]bool{}
	shapes(func(args []api.Expr, labels []string, arms []api.Arm) {
		for kind := -1; kind <= api.EOr+1; kind++ {
			for _, n := range []int64{-1, 0, 1, 2, api.OpNeg, api.OpSet, api.OpPutc, api.OpPutc + 1, 1<<62 - 1, 1 << 62} {
				for _, name := range []string{"", "x", "_", "in", "X"} {
					for _, s := range []string{"", "s"} {
						e := api.Expr{Kind: kind, At: 3, Name: name, N: n, S: s, Labels: labels, Args: args, Arms: arms}
						if agree(t, e) {
							// No two of these are the same.
							text, _ := show.Show(e)
							if texts[text] {
								t.Fatalf("%q twice", text)
							}
							texts[text] = true
						}
					}
				}
			}
		}
	})
}

func TestP7_2_AllShapes(t *testing.T) {
	texts := map[string]bool{}
	for args := range 4 {
		for labels := range 4 {
			for kind := -1; kind <= api.PRecord+1; kind++ {
				for _, n := range []int64{-1 << 63, -1 << 62, 1 - 1<<62, -1, 0, 1, 2, 1<<62 - 1, 1 << 62} {
					for _, name := range []string{"", "x", "_", "in", "X"} {
						for _, s := range []string{"", "s"} {
							p := api.Pat{Kind: kind, At: 3, Name: name, N: n, S: s, Labels: []string{"k", "l", "k"}[:labels]}
							for range args {
								p.Args = append(p.Args, api.Pat{Kind: api.PVar, Name: "a"})
							}
							if agreePat(t, p) {
								text, _ := show.Pattern(p)
								if texts[text] {
									t.Fatalf("%q twice", text)
								}
								texts[text] = true
							}
						}
					}
				}
			}
		}
	}
}

// TestP7_3_ReadAgain: what Parse reads is printable, and the text is read as the same.
func TestP7_3_ReadAgain(t *testing.T) {
	m := maker{rand.New(rand.NewSource(9))}
	pieces := strings.Fields("let x = y in ; fun x -> x let rec f = fun x -> x in f match x with x -> y | 1 -> 2 end if x then y else z raise Foo try 1 with _ -> 2 end not - ref x len size array x y get set a 1 2 byte cat getc () putc 1 := && || ( x ) { a = 1 , b = 2 } { r with a = 1 } x . a + - * / % < ! x #A x #B ( ) \"s\" \"\\xff\" true false 7 0 _ Foo")
	read := 0
	for i := range 60000 {
		var l []string
		for range 1 + i%8 {
			from := m.Intn(len(pieces))
			l = append(l, pieces[from:min(len(pieces), from+1+m.Intn(8))]...)
		}
		e, errno, _ := parse.Parse(strings.Join(l, " "))
		if errno != api.OK {
			continue
		}
		read++
		if !agree(t, e) {
			t.Fatalf("%q is printable", strings.Join(l, " "))
		}
	}
	if read < 1000 {
		t.Errorf("%d texts only", read)
	}
	// Of a source's fields of 4 bytes, each has 7 in the text: for 585 there is room.
	for n := 584; n <= 586; n++ {
		e, errno, _ := parse.Parse("{" + strings.Repeat("a=b,", n-1) + "a=b}")
		text, f := show.Show(e)
		if fits := n <= 585; errno != api.OK || fits && (f != api.OK || text != said(e)) || !fits && (f != api.ErrBytes || text != "") {
			t.Errorf("%d fields: %d bytes, %d, %d", n, len(text), errno, f)
		}
	}
}
