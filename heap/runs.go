package heap

import (
	"cmp"
	"slices"
)

// A run is a number of consecutive free cells.
type run struct {
	at, cells int
}

// end returns the number of the cell behind a run.
func (r run) end() int {
	return r.at + r.cells
}

// runs are the free runs in increasing order. No run is empty, and no two touch: so each is as long as can be.
type runs []run

// take removes n cells from the beginning of the first run that has so many, and returns the first of them, or 0 if there is no such run.
func (l *runs) take(n int) int {
	i := slices.IndexFunc(*l, func(r run) bool { return r.cells >= n })
	if i < 0 {
		return 0
	}
	r := (*l)[i]
	if r.cells == n {
		*l = slices.Delete(*l, i, i+1)
	} else {
		(*l)[i] = run{at: r.at + n, cells: r.cells - n}
	}
	return r.at
}

// give adds cells of which none is free yet, joined with the runs that they touch.
func (l *runs) give(r run) {
	i, _ := slices.BinarySearchFunc(*l, r.at, func(r run, at int) int { return cmp.Compare(r.at, at) })
	j := i
	if i > 0 && (*l)[i-1].end() == r.at {
		i--
		r = run{at: (*l)[i].at, cells: (*l)[i].cells + r.cells}
	}
	if j < len(*l) && (*l)[j].at == r.end() {
		r.cells += (*l)[j].cells
		j++
	}
	*l = slices.Replace(*l, i, j, r)
}

// sum returns how many cells all runs have together.
func (l runs) sum() int {
	n := 0
	for _, r := range l {
		n += r.cells
	}
	return n
}

// longest returns how many cells the longest run has.
func (l runs) longest() int {
	n := 0
	for _, r := range l {
		n = max(n, r.cells)
	}
	return n
}
