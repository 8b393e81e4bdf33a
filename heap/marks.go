package heap

import "math/bits"

// markBits is how many cells one element of marks tells of.
const markBits = 64

// marks is a set of cells, a bit a cell, so that the way from one marked cell to the next is short.
type marks []uint64

// newMarks makes a set without a cell, for cells 0 to cells - 1.
func newMarks(cells int) marks {
	return make(marks, (cells+markBits-1)/markBits)
}

func (m marks) add(cell int) {
	m[cell/markBits] |= 1 << (cell % markBits)
}

func (m marks) remove(cell int) {
	m[cell/markBits] &^= 1 << (cell % markBits)
}

func (m marks) has(cell int) bool {
	return m[cell/markBits]>>(cell%markBits)&1 == 1
}

// from returns the lowest marked cell at or above cell, or 0 if there is none.
func (m marks) from(cell int) int {
	i := cell / markBits
	if i >= len(m) {
		return 0
	}
	// The two shifts drop what is below cell.
	rest := m[i] >> (cell % markBits) << (cell % markBits)
	for rest == 0 {
		i++
		if i == len(m) {
			return 0
		}
		rest = m[i]
	}
	return i*markBits + bits.TrailingZeros64(rest)
}
