package row

import (
	"math"

	"marquetry/api"
)

// A counter counts the parts of types as they are looked at.
type counter struct {
	look  func(*api.Type) view
	limit int // greater numbers are not told from this one
	// By places in memory, as what is shared is counted once: 0 while it is being counted.
	sizes map[*api.Type]int
}

// count returns how many parts a type has as it is looked at, or most + 1 if that is less.
func count(t *api.Type, most int, look func(*api.Type) view) int {
	if most < 0 {
		return 0
	}
	limit := most
	if most < math.MaxInt {
		limit++
	}
	c := counter{look, limit, map[*api.Type]int{}}
	todo := []item{{t: t}}
	for len(todo) > 0 {
		last := len(todo) - 1
		x := todo[last].t
		n, more := c.sum(x, todo)
		if len(more) > len(todo) {
			n = 0
		} else {
			more = todo[:last]
		}
		c.sizes[x], todo = n, more
	}
	return c.sizes[t]
}

// sum returns how many parts a type has, as far as they have been counted, and adds to a list what has not been. What contains
// itself has more parts than any number.
func (c counter) sum(t *api.Type, l []item) (int, []item) {
	v := c.look(t)
	n := c.add(1, len(v.fields))
	all := v.items(l)
	missing := all[:len(l)]
	for _, i := range all[len(l):] {
		if i.t == nil {
			continue
		}
		size, begun := c.sizes[i.t]
		switch {
		case !begun:
			missing = append(missing, i)
		case size == 0:
			return c.limit, l
		default:
			n = c.add(n, size)
		}
	}
	return n, missing
}

// add returns the sum of two numbers up to the limit, the first of which is not above it.
func (c counter) add(n, m int) int {
	if m > c.limit-n {
		return c.limit
	}
	return n + m
}
