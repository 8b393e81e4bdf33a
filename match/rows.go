package match

import (
	"slices"

	"marquetry/api"
)

// A row is what remains of a case: conditions, of which no two are of one place, and the variables that are bound.
type row struct {
	number     int
	conditions []*part // constants and tags
	bound      []*part
}

// rows returns the rows of patterns.
func (r *reader) rows(l []api.TPat) []row {
	var rows []row
	for i := range l {
		p := r.read(&l[i], whole)
		first := row{number: i}
		first.add(&p)
		rows = append(rows, first)
	}
	return rows
}

// add adds a condition, simplified.
func (r *row) add(p *part) {
	switch p.kind {
	case api.PAny, api.PUnit:
	case api.PVar:
		r.bound = append(r.bound, p)
	case api.PRecord:
		for i := range p.args {
			r.add(&p.args[i])
		}
	default:
		r.conditions = append(r.conditions, p)
	}
}

// at returns a row's condition at a place, or nil.
func (r row) at(place int) *part {
	for _, c := range r.conditions {
		if c.place == place {
			return c
		}
	}
	return nil
}

// after returns what remains of a row when one of its conditions holds.
func (r row) after(held *part) row {
	next := row{number: r.number, bound: slices.Clip(r.bound)} // Others go on from the same row.
	for _, c := range r.conditions {
		if c != held {
			next.conditions = append(next.conditions, c)
			continue
		}
		for i := range c.args { // A constant has none.
			next.add(&c.args[i])
		}
	}
	return next
}

// selected returns what remains of the rows that have no condition at a place, or one that holds.
func selected(rows []row, place int, holds func(*part) bool) []row {
	var l []row
	for _, r := range rows {
		switch c := r.at(place); {
		case c == nil:
			l = append(l, r)
		case holds(c):
			l = append(l, r.after(c))
		}
	}
	return l
}

// choicesAt returns the choices that rows have at a place, each once.
func choicesAt(rows []row, place int) []int {
	var l []int
	for _, r := range rows {
		if c := r.at(place); c != nil && !slices.Contains(l, c.choice) {
			l = append(l, c.choice)
		}
	}
	return l
}
