package anf

import (
	"slices"
	"strconv"
	"strings"

	"marquetry/api"
)

// A list of names, each of which has a number: its place.
type names []string

func (n *names) add(l ...string) {
	*n = append(*n, l...)
}

// settle puts the names in increasing order, each once, in memory of their own.
func (n *names) settle() {
	slices.Sort(*n)
	*n = slices.Compact(*n)
	for i, s := range *n {
		(*n)[i] = strings.Clone(s)
	}
}

// number returns the number of a name.
func (n names) number(s string) int64 {
	i, _ := slices.BinarySearch(n, s)
	return int64(i)
}

// A survey is what is gathered from a whole term before it is composed, as some parts of it may come to nothing then.
type survey struct {
	parts                     int
	labels, tags, exns, texts names
	decisions                 map[*api.Term][]decision // of each TMatch
}

// surveyOf returns the survey of a term.
func surveyOf(t *api.Term) survey {
	s := survey{exns: names{"Bounds", "Divide", "Match", "Size"}, decisions: map[*api.Term][]decision{}}
	s.addTerm(t)
	if s.parts > mostFlat { // Then there may be records of captured variables, which need as many labels.
		for i := range packSize {
			s.labels.add(strconv.Itoa(i))
		}
	}
	for _, n := range []*names{&s.labels, &s.tags, &s.exns, &s.texts} {
		n.settle()
	}
	return s
}

// addTerm adds what a term has.
func (s *survey) addTerm(t *api.Term) {
	s.parts++
	switch t.Kind {
	case api.TString:
		s.texts.add(t.S)
	case api.TExn:
		s.exns.add(t.S)
	case api.TTag:
		s.tags.add(t.S)
	case api.TWith, api.TField:
		s.labels.add(t.S)
	case api.TMatch:
		s.decisions[t] = decisionsOf(t.Cases)
	}
	s.labels.add(t.Labels...)
	for i := range t.Args {
		s.addTerm(&t.Args[i])
	}
	for i := range t.Cases {
		s.addPattern(&t.Cases[i].P)
		s.addTerm(&t.Cases[i].Body)
	}
}

// addPattern adds what a pattern has.
func (s *survey) addPattern(p *api.TPat) {
	s.parts++
	switch p.Kind {
	case api.PString:
		s.texts.add(p.S)
	case api.PExn:
		s.exns.add(p.S)
	case api.PTag:
		s.tags.add(p.S)
	}
	s.labels.add(p.Labels...)
	for i := range p.Args {
		s.addPattern(&p.Args[i])
	}
}

// used returns the variables that a term names, in increasing order.
func used(t *api.Term) []int {
	l := naming(t, nil)
	slices.Sort(l)
	return slices.Compact(l)
}

// naming adds to a list each variable that a term names, as often as it does.
func naming(t *api.Term, l []int) []int {
	if t.Kind == api.TVar {
		l = append(l, t.V)
	}
	for i := range t.Args {
		l = naming(&t.Args[i], l)
	}
	for i := range t.Cases {
		l = naming(&t.Cases[i].Body, l)
	}
	return l
}
