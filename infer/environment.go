package infer

import (
	"slices"

	"marquetry/api"
)

// An entry is what the environment says of a variable of the term.
type entry struct {
	t       api.Type
	general map[int]struct{}
	number  int // how much had been bound before it
}

// An environment is what has been bound. What is out of scope remains in it, as it is not used any more.
type environment struct {
	entries map[int]entry
	bound   int   // how often something has been bound
	used    []int // what has been used, as often as it was
}

// A moment is how often something had been bound, and used.
type moment struct{ bound, used int }

func (e *environment) now() moment {
	return moment{e.bound, len(e.used)}
}

// bind gives a variable of the term a type, and those of the type's variables that are general.
func (e *environment) bind(v int, t api.Type, general map[int]struct{}) {
	e.entries[v] = entry{t, general, e.bound}
	e.bound++
}

// use returns what a variable of the term is bound to.
func (e *environment) use(v int) entry {
	e.used = append(e.used, v)
	return e.entries[v]
}

// since returns a type that consists of all that were bound before a moment and used after it.
func (e *environment) since(m moment) api.Type {
	l := slices.Clone(e.used[m.used:])
	slices.Sort(l)
	all := plain(api.TyUnit)
	for _, v := range slices.Compact(l) {
		if x := e.entries[v]; x.number < m.bound {
			all = plain(api.TyFun, x.t, all)
		}
	}
	return all
}

// general returns the variables that are general in the type of a term which was begun at a moment.
//
// Such a type's variables are new, or those of the types of what the term has used. So the environment's other types, which may
// be many, need not be looked at; nor is it asked what is general in the former, as that occurs nowhere else.
func (f *finder) general(t api.Type, begun moment) map[int]struct{} {
	l := map[int]struct{}{}
	for _, v := range f.Vars(t) {
		l[v] = struct{}{}
	}
	if len(l) == 0 {
		return nil
	}
	for _, v := range f.Vars(f.since(begun)) {
		delete(l, v)
	}
	return l
}

// copied returns an entry's type with new variables in place of those that are general.
func (f *finder) copied(x entry) api.Type {
	if len(x.general) == 0 {
		return x.t
	}
	others := map[int]int{}
	for _, v := range f.Vars(x.t) {
		if _, general := x.general[v]; general {
			others[v] = f.Fresh()
		}
	}
	t := f.Apply(x.t)
	rename(&t, others)
	return t
}
