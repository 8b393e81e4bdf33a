package row

import "marquetry/api"

// A value is what a variable may stand for. It may be nothing but another variable of the same sort.
type value interface {
	variable() (int, bool)
}

// values are those of the variables of one sort. No variable occurs in its own value.
type values[V value] map[int]V

// find returns what a variable stands for in the end: a value that is no variable, or one of which nothing is known; self if
// that is the variable itself. What was found on the way stands for that at once from then on, so that no way is long twice.
func (k values[V]) find(v int, self V) V {
	end := self
	for w, on := v, true; on; w, on = end.variable() {
		next, known := k[w]
		if !known {
			break
		}
		end = next
	}
	for w, on := v, true; on; {
		next, known := k[w]
		if !known {
			break
		}
		k[w] = end
		w, on = next.variable()
	}
	return end
}

// A shape is the value of a type variable.
type shape struct{ *api.Type }

func (s shape) variable() (int, bool) {
	return s.V, s.Kind == api.TyVar
}

// A presence is the value of a presence variable, or what a field has as its own.
type presence struct{ pres, p int }

func (p presence) variable() (int, bool) {
	return p.p, p.pres == api.PresVar
}

// A tail is the value of a row variable. Without fields it is its rest, which may be 0, of which nothing is ever known.
type tail api.Row

func (t tail) variable() (int, bool) {
	return t.Rest, len(t.Fields) == 0
}
