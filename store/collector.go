package store

import "marquetry/gc"

// idle is the number of the phase in which no cycle is in progress.
const idle = 0

// collector is a collector that counts the cycles that have ended. It counts where cycles end, so that a promoted call counts as any other.
type collector struct {
	*gc.GC
	cycles int
}

// Step executes one step, and reports whether the cycle has ended with it.
func (c *collector) Step() bool {
	ended := c.GC.Step()
	if ended {
		c.cycles++
	}
	return ended
}

// Finish ends the cycle if there is one, and returns how many steps that took.
func (c *collector) Finish() int {
	steps := c.GC.Finish()
	if steps > 0 {
		c.cycles++
	}
	return steps
}
