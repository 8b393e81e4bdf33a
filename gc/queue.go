package gc

// queue holds addresses so that the lowest one is at hand: none is lower than the one above it, which for place i is at place (i-1)/2.
type queue []int

// push adds an address.
func (q *queue) push(addr int) {
	*q = append(*q, addr)
	l := *q
	i := len(l) - 1
	for i > 0 && l[i] < l[(i-1)/2] {
		above := (i - 1) / 2
		l[i], l[above] = l[above], l[i]
		i = above
	}
}

// pop removes the lowest address, and returns it. The queue must not be empty.
func (q *queue) pop() int {
	l := *q
	last := len(l) - 1
	lowest := l[0]
	l[0] = l[last]
	l = l[:last]
	*q = l
	i := 0
	for low := l.lower(i); low != i; low = l.lower(i) {
		l[i], l[low] = l[low], l[i]
		i = low
	}
	return lowest
}

// lower returns which of place i and the two places below it has the lowest address.
func (q queue) lower(i int) int {
	low := i
	for below := 2*i + 1; below <= 2*i+2 && below < len(q); below++ {
		if q[below] < q[low] {
			low = below
		}
	}
	return low
}
