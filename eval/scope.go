package eval

import "marquetry/api"

// A scope is what a variable is bound to, and the scope around it. As it never changes, functions keep theirs without a copy.
type scope struct {
	v     int
	bound value
	outer *scope
}

// bind returns the scope within s in which a variable is bound, too.
func (s *scope) bind(v int, bound value) *scope {
	return &scope{v, bound, s}
}

// find returns what a variable is bound to. In a valid term it is bound wherever it is named.
func (s *scope) find(v int) value {
	for s.v != v {
		s = s.outer
	}
	return s.bound
}

// match reports whether a pattern matches a value, and returns the scope within s with its bindings.
func (s *scope) match(p *api.TPat, v value) (*scope, bool) {
	switch p.Kind {
	case api.PVar:
		return s.bind(p.V, v), true
	case api.PInt:
		return s, as[number](v) == number(p.N)
	case api.PString:
		return s, as[text](v) == text(p.S)
	case api.PBool:
		return s, as[boolean](v) == (p.N == 1)
	case api.PUnit:
		return s, as[unit](v) == unit{}
	case api.PExn:
		return s, as[exception](v) == exception(p.S)
	case api.PTag:
		t := as[tagged](v)
		if t.tag != p.S {
			return s, false
		}
		return s.match(&p.Args[0], t.content)
	case api.PRecord:
		return s.matchFields(p, as[record](v))
	}
	return s, true
}

// matchFields does so for the pattern of a record.
func (s *scope) matchFields(p *api.TPat, r record) (*scope, bool) {
	for i := range p.Args {
		inner, ok := s.match(&p.Args[i], r.field(p.Labels[i]))
		if !ok {
			return s, false
		}
		s = inner
	}
	return s, true
}
