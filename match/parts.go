package match

import (
	"slices"
	"strings"

	"marquetry/api"
)

// numbers gives things numbers from 0 on: equal ones have the same number, so that they need not be compared again.
type numbers[T comparable] struct {
	of  map[T]int
	all []T
}

// number returns the number of a thing.
func (n *numbers[T]) number(x T) int {
	i, known := n.of[x]
	if !known {
		i = len(n.all)
		n.of[x] = i
		n.all = append(n.all, x)
	}
	return i
}

// A place is where a path leads, by one more step than the path to another place.
type place struct {
	from int
	step string
}

// whole is the number of the place of the whole value, to which the empty path leads.
const whole = -1

// A choice is what there may be a branch for: a constant or a tag.
type choice struct {
	kind int
	n    int64
	s    string
}

// A part is a part of a pattern, with the number of the place of what it is to match, and of the choice that it is.
type part struct {
	kind, v       int
	place, choice int
	args          []part
}

// A reader makes parts of patterns.
type reader struct {
	places  numbers[place]
	choices numbers[choice]
}

func newReader() reader {
	return reader{numbers[place]{of: map[place]int{}}, numbers[choice]{of: map[choice]int{}}}
}

// read returns the part that a pattern for what is at a place becomes. Strings are cloned, as they themselves would share
// their memory.
func (r *reader) read(p *api.TPat, at int) part {
	c := r.choices.number(choice{p.Kind, p.N, strings.Clone(p.S)})
	q := part{kind: p.Kind, v: p.V, place: at, choice: c}
	for i := range p.Args {
		step := ""
		if p.Kind == api.PRecord {
			step = strings.Clone(p.Labels[i])
		}
		q.args = append(q.args, r.read(&p.Args[i], r.places.number(place{at, step})))
	}
	return q
}

// path returns the path to a place.
func (r *reader) path(at int) []string {
	var l []string
	for at != whole {
		p := r.places.all[at]
		l = append(l, p.step)
		at = p.from
	}
	slices.Reverse(l)
	return l
}
