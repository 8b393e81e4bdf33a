package gc

import (
	"math/rand"
	"slices"
	"testing"
)

// TestQueueLowestFirst: whatever was pushed and popped before, the lowest address comes out.
func TestQueueLowestFirst(t *testing.T) {
	r := rand.New(rand.NewSource(1))
	for range 200 {
		var q queue
		var held []int
		most := 1 + r.Intn(100)
		for range 400 {
			if len(held) == 0 || len(held) < most && r.Intn(5) < 3 {
				addr := 1 + r.Intn(1000)
				q.push(addr)
				held = append(held, addr)
				continue
			}
			slices.Sort(held)
			if got := q.pop(); got != held[0] || len(q) != len(held)-1 {
				t.Fatalf("pop() = %d of %v, and %d are left", got, held, len(q))
			}
			held = held[1:]
		}
	}
}
