package parse_test

import (
	"maps"
	"math/bits"
	"math/rand"
	"regexp"
	"slices"
	"strings"
	"testing"

	"marquetry/api"
	"marquetry/lex"
	"marquetry/parse"
)

// chapterGrammar is the chapter's grammar. "{=" is a brace that a name and "=" follow: the chapter says that such a brace
// begins a record. A pattern's record begins with either, as what follows its brace decides nothing there.
const chapterGrammar = `
seq     = item [ ";" seq ]
item    = "let" NAME "=" seq "in" seq | "let" "rec" NAME "=" fun "in" seq | fun
        | "match" seq "with" arms "end" | "try" seq "with" arms "end"
        | "if" seq "then" item "else" item | "raise" post | assign
fun     = "fun" NAME "->" seq
arms    = pat "->" seq ( "|" pat "->" seq )*
assign  = or [ ":=" item ]
or      = and [ "||" or ]
and     = cmp [ "&&" and ]
cmp     = sum [ ( "=" | "<" ) sum ]
sum     = prod ( ( "+" | "-" ) prod )*
prod    = unary ( ( "*" | "/" | "%" ) unary )*
unary   = ( "-" | "not" ) unary | app
app     = TAG post | op1 post | op2 post post | op3 post post post | post ( post )*
op1     = "ref" | "len" | "size" | "getc" | "putc"
op2     = "array" | "get" | "byte" | "cat"
op3     = "set"
post    = "!" post | atom ( "." NAME )*
atom    = INT | STRING | "true" | "false" | NAME | UPPER | "(" ")" | "(" seq ")"
        | "{" "}" | "{=" NAME "=" seq ( "," NAME "=" seq )* "}" | "{" seq "with" NAME "=" seq "}"
pat     = TAG patom | patom
patom   = NAME | INT | "-" INT | STRING | "true" | "false" | UPPER | "(" ")" | "(" pat ")"
        | "{" "}" | ( "{" | "{=" ) NAME "=" pat ( "," NAME "=" pat )* "}"
`

// A rule is a terminal, a rule's name, or is made of kids: all of them in order, one of them, or the kid any number of
// times, or at most once.
type rule struct {
	kind byte // 't', 'n', 'a', 'o', '*', '?'
	text string
	kids []*rule
}

// grammarReader reads the notation of the chapter.
type grammarReader struct{ words []string }

func (g *grammarReader) peek() string {
	if len(g.words) == 0 {
		return ""
	}
	return g.words[0]
}

func (g *grammarReader) one() *rule {
	w := g.words[0]
	g.words = g.words[1:]
	switch {
	case w == "(" || w == "[":
		inner := g.choice()
		end := g.words[0]
		g.words = g.words[1:]
		if w == "[" {
			return &rule{kind: '?', kids: []*rule{inner}}
		}
		if end == ")*" {
			return &rule{kind: '*', kids: []*rule{inner}}
		}
		return inner
	case w[0] == '"':
		return &rule{kind: 't', text: strings.Trim(w, `"`)}
	case w[0] >= 'A' && w[0] <= 'Z':
		return &rule{kind: 't', text: w}
	}
	return &rule{kind: 'n', text: w}
}

func (g *grammarReader) choice() *rule {
	all := &rule{kind: 'o'}
	for {
		row := &rule{kind: 'a'}
		for !slices.Contains([]string{"", "|", ")", ")*", "]"}, g.peek()) {
			row.kids = append(row.kids, g.one())
		}
		all.kids = append(all.kids, row)
		if g.peek() != "|" {
			return all
		}
		g.words = g.words[1:]
	}
}

// readGrammar returns the rules by their names.
func readGrammar() map[string]*rule {
	rules := map[string]*rule{}
	heads := regexp.MustCompile(`(?m)^(\w+) +=`).FindAllStringSubmatchIndex(chapterGrammar, -1)
	for i, h := range heads {
		end := len(chapterGrammar)
		if i+1 < len(heads) {
			end = heads[i+1][0]
		}
		g := &grammarReader{strings.Fields(chapterGrammar[h[1]:end])}
		rules[chapterGrammar[h[2]:h[3]]] = g.choice()
	}
	return rules
}

// A recognizer tries all ways through the grammar. What it expected at the farthest token that it came to is what the
// grammar permits there.
type recognizer struct {
	rules    map[string]*rule
	tokens   []string
	known    map[string]*[64]places
	far      int
	expected map[string]bool
}

// places are the numbers of tokens, each a bit. The highest says that they are known.
type places uint64

const known places = 1 << 63

func (m *recognizer) terminal(text string, at int) bool {
	if at > m.far {
		m.far = at
		clear(m.expected)
	}
	if at == m.far {
		m.expected[text] = true
	}
	return m.tokens[at] == text
}

// ends returns where what a rule derives can end if it begins there.
func (m *recognizer) ends(x *rule, at int) places {
	here := places(1) << at
	switch x.kind {
	case 't':
		if m.terminal(x.text, at) {
			return here << 1
		}
		return 0
	case 'n':
		return m.ruleEnds(x.text, at)
	case '?':
		return here | m.ends(x.kids[0], at)
	case '*':
		all := here
		for more := here; more != 0; all |= more {
			more = m.after(x.kids[0], more) &^ all
		}
		return all
	case 'a':
		for _, k := range x.kids {
			here = m.after(k, here)
		}
		return here
	}
	var all places
	for _, k := range x.kids {
		all |= m.ends(k, at)
	}
	return all
}

func (m *recognizer) ruleEnds(name string, at int) places {
	row := m.known[name]
	if row == nil {
		row = new([64]places)
		m.known[name] = row
	}
	if row[at] == 0 {
		row[at] = m.ends(m.rules[name], at) | known
	}
	return row[at] &^ known
}

func (m *recognizer) after(x *rule, from places) places {
	var all places
	for ; from != 0; from &= from - 1 {
		all |= m.ends(x, bits.TrailingZeros64(uint64(from)))
	}
	return all
}

// run returns whether a rule derives all tokens before the last one, and that is this one.
func run(rules map[string]*rule, tokens []string, last string) (*recognizer, bool) {
	if len(tokens) > 60 {
		panic("too many tokens")
	}
	m := &recognizer{rules: rules, tokens: tokens, known: map[string]*[64]places{}, far: -1, expected: map[string]bool{}}
	found := m.after(&rule{kind: 't', text: last}, m.ruleEnds("seq", 0))
	return m, found != 0
}

// terminals returns the names of a text's tokens in the grammar, and their offsets.
func terminals(t *testing.T, src string) ([]string, []int) {
	tokens, e, _ := lex.Lex(src)
	if e != api.OK {
		t.Fatalf("%q: %d", src, e)
	}
	kinds := map[int]string{api.TokEnd: "END", api.TokName: "NAME", api.TokUpper: "UPPER", api.TokTag: "TAG", api.TokInt: "INT", api.TokString: "STRING"}
	var l []string
	var at []int
	for i, token := range tokens {
		text := kinds[token.Kind]
		if text == "" {
			text = token.Text
		}
		if text == "{" && len(tokens) > i+2 && tokens[i+1].Kind == api.TokName && tokens[i+2].Kind == api.TokSign && tokens[i+2].Text == "=" {
			text = "{="
		}
		l, at = append(l, text), append(at, token.At)
	}
	return l, at
}

// recognize returns whether the grammar permits a text, and the offset of the first token that it does not permit.
func recognize(t *testing.T, rules map[string]*rule, src string) (bool, int) {
	l, at := terminals(t, src)
	m, ok := run(rules, l, "END")
	if ok {
		return true, 0
	}
	return false, at[m.far]
}

// permitted returns what the grammar permits after a permitted beginning of a text, in increasing order.
func permitted(t *testing.T, rules map[string]*rule, src string) []string {
	l, _ := terminals(t, src)
	l[len(l)-1] = "none"
	m, _ := run(rules, l, "none")
	delete(m.expected, "none")
	return slices.Sorted(maps.Keys(m.expected))
}

// agree fails if Parse accepts a text that the grammar does not permit, or the other way round, or errs elsewhere.
func agree(t *testing.T, rules map[string]*rule, src string) {
	t.Helper()
	e, errno, at := parse.Parse(src)
	if ok, place := recognize(t, rules, src); ok && errno != api.OK || !ok && errno != api.ErrSyntax || at != place {
		t.Fatalf("%q: %d at %d, want %v, %d: %s", src, errno, at, ok, place, dump(e))
	}
}

// samples are the terminals of the grammar, each with a text.
func samples(rules map[string]*rule) map[string]string {
	l := map[string]string{}
	var walk func(x *rule)
	walk = func(x *rule) {
		if x.kind == 't' {
			l[x.text] = x.text
		}
		for _, k := range x.kids {
			walk(k)
		}
	}
	for _, x := range rules {
		walk(x)
	}
	maps.Copy(l, map[string]string{"NAME": "x", "UPPER": "Foo", "TAG": "#A", "INT": "1", "STRING": `"s"`, "{=": "{x ="})
	return l
}

func TestP6_1_GrammarShort(t *testing.T) {
	rules := readGrammar()
	all := slices.Sorted(maps.Values(samples(rules)))
	if len(all) != 6+20+25 {
		t.Fatalf("%d terminals: %q", len(all), all)
	}
	agree(t, rules, "")
	for _, a := range all {
		agree(t, rules, a)
		for _, b := range all {
			agree(t, rules, a+" "+b)
			for _, c := range []string{"x", "1", "(", ")", "}", "=", ".", "-", "with", "let", "fun", "!", ";", "#A"} {
				agree(t, rules, a+" "+b+" "+c)
			}
		}
	}
}

// TestP6_1_GrammarPrefixes: after beginnings of permitted texts, what the grammar permits is permitted, and nothing else.
func TestP6_1_GrammarPrefixes(t *testing.T) {
	rules := readGrammar()
	texts := samples(rules)
	all := slices.Sorted(maps.Values(texts))
	r := rand.New(rand.NewSource(7))
	for range 100 {
		src := ""
		for range 1 + r.Intn(25) {
			for _, s := range all {
				agree(t, rules, src+" "+s)
			}
			next := permitted(t, rules, src)
			src += " " + texts[next[r.Intn(len(next))]]
		}
	}
}

// TestP6_1_GrammarMutants: permitted texts in which tokens are left out, doubled, replaced or swapped.
func TestP6_1_GrammarMutants(t *testing.T) {
	rules := readGrammar()
	all := slices.Sorted(maps.Values(samples(rules)))
	r := rand.New(rand.NewSource(8))
	for i := range 5000 {
		src, _ := randomText(r, 1+i/1000)
		words := tokenTexts(src)
		if len(words) > 50 {
			continue
		}
		for range 1 + r.Intn(2) {
			at := r.Intn(len(words))
			switch r.Intn(5) {
			case 0:
				words = slices.Delete(words, at, at+1)
			case 1:
				words = slices.Insert(words, at, words[at])
			case 2:
				words[at] = all[r.Intn(len(all))]
			case 3:
				other := r.Intn(len(words))
				words[at], words[other] = words[other], words[at]
			case 4:
				words = words[:at+1]
			}
			if len(words) == 0 {
				break
			}
		}
		agree(t, rules, strings.Join(words, " "))
	}
}

// tokenTexts returns the pieces of a text that its tokens come from.
func tokenTexts(src string) []string {
	tokens, _, _ := lex.Lex(src)
	var l []string
	for i := range len(tokens) - 1 {
		l = append(l, strings.Trim(src[tokens[i].At:tokens[i+1].At], " \n"))
	}
	return l
}
