package row

import (
	"slices"

	"marquetry/api"
)

// A unification makes the two types equal that a solver was passed.
type unification struct {
	*Solver
	a, b *api.Type
}

// caught returns the error that a panic carried, or none if there was no panic.
func caught(r any) api.Errno {
	if r == nil {
		return api.OK
	}
	return r.(api.Errno) // Nothing else panics here: anything else is a mistake, which goes on.
}

// limit gives up if one of the types has become too large.
func (u *unification) limit() {
	for _, t := range []*api.Type{u.a, u.b} {
		if count(t, api.MaxType, u.look) > api.MaxType {
			panic(api.ErrMany)
		}
	}
}

// apart gives up if a variable occurs in what is to be its value.
func (u *unification) apart(v int, t *api.Type) {
	if slices.Contains(u.vars(t), v) {
		panic(api.ErrOccurs)
	}
}

// setType gives a type variable its value. One that is a single part makes no type larger.
func (u *unification) setType(v int, t *api.Type) {
	u.apart(v, t)
	u.types[v] = shape{t}
	if x := u.look(t); len(x.args)+len(x.fields) > 0 {
		u.limit()
	}
}

// setRow gives a row variable its value. One without fields makes no type larger.
func (u *unification) setRow(v int, r row) {
	t := view{kind: api.TyRecord, row: r}.copied()
	u.apart(v, &t)
	u.rows[v] = tail(t.Row)
	if len(r.fields) > 0 {
		u.limit()
	}
}

// setPresence gives a presence variable its value. No type becomes larger by that.
func (u *unification) setPresence(v int, p presence) {
	u.presences[v] = p
}

// unify makes two types equal.
func (u *unification) unify(a, b *api.Type) {
	x, y := u.look(a), u.look(b)
	switch {
	case x.kind == api.TyVar && y.kind == api.TyVar && x.v == y.v:
	case x.kind == api.TyVar:
		u.setType(x.v, b)
	case y.kind == api.TyVar:
		u.setType(y.v, a)
	case x.kind != y.kind || len(x.args) != len(y.args):
		panic(api.ErrType)
	default:
		for i := range x.args {
			u.unify(&x.args[i], &y.args[i])
		}
		u.unifyRows(x.row, y.row)
	}
}

// unifyRows makes two rows equal.
func (u *unification) unifyRows(a, b row) {
	onlyA, onlyB := u.unifyFields(a, b)
	switch {
	case u.known(a.rest) || u.known(b.rest):
		// A rest's value has become known while the fields were unified: what is left has other fields by that.
		u.unifyRows(u.again(onlyA, a.rest), u.again(onlyB, b.rest))
	case a.rest == b.rest:
		if a.rest != 0 && len(onlyA)+len(onlyB) > 0 {
			panic(api.ErrType)
		}
	case b.rest == 0:
		u.setRow(a.rest, row{onlyB, 0})
	case a.rest == 0:
		u.setRow(b.rest, row{onlyA, 0})
	case len(onlyA)+len(onlyB) == 0:
		u.setRow(a.rest, row{nil, b.rest})
	default:
		rest := u.Fresh()
		u.setRow(a.rest, row{onlyB, rest})
		u.setRow(b.rest, row{onlyA, rest})
	}
}

// known reports whether there is a row variable whose value is known.
func (u *unification) known(v int) bool {
	_, known := u.rows[v]
	return known
}

// again returns the row of some fields and a rest, with what has become known since.
func (u *unification) again(l []field, rest int) row {
	return u.whole(row{l, rest}.copied())
}

// unifyFields makes the fields equal whose labels two rows have, and returns those that only one of them has.
func (u *unification) unifyFields(a, b row) (onlyA, onlyB []field) {
	x, y := a.fields, b.fields
	for len(x) > 0 || len(y) > 0 {
		switch {
		case len(y) == 0 || len(x) > 0 && x[0].label < y[0].label:
			u.unifyAlone(x[0], b.rest)
			onlyA, x = append(onlyA, x[0]), x[1:]
		case len(x) == 0 || y[0].label < x[0].label:
			u.unifyAlone(y[0], a.rest)
			onlyB, y = append(onlyB, y[0]), y[1:]
		default:
			u.unifyPair(x[0], y[0])
			x, y = x[1:], y[1:]
		}
	}
	return onlyA, onlyB
}

// unifyAlone makes a field absent if the other row, which does not have it, has no rest that could.
func (u *unification) unifyAlone(f field, rest int) {
	if rest != 0 {
		return
	}
	switch p := u.find(f.presence); p.pres {
	case api.Present:
		panic(api.ErrType)
	case api.PresVar:
		u.setPresence(p.p, presence{pres: api.Absent})
	}
}

// unifyPair makes two fields equal.
func (u *unification) unifyPair(f, g field) {
	p, q := u.find(f.presence), u.find(g.presence)
	switch {
	case p == q:
	case p.pres == api.PresVar:
		u.setPresence(p.p, q)
	case q.pres == api.PresVar:
		u.setPresence(q.p, p)
	default:
		panic(api.ErrType)
	}
	if u.find(p).pres != api.Absent {
		u.unify(f.t, g.t)
	}
}
