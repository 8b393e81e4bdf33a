package store

import (
	"testing"

	"marquetry/api"
)

// TestCyclesByPromotedCalls: a cycle that a promoted call ends has ended, too.
func TestCyclesByPromotedCalls(t *testing.T) {
	s := New(20)
	w, _ := s.Alloc(api.KindRef, 1, nil)
	s.Alloc(api.KindRef, 1, nil)
	expect := func(phase, cycles, room int) {
		t.Helper()
		if s.Phase() != phase || s.Cycles() != cycles || s.Room() != room {
			t.Fatalf("phase %d, %d cycles, room %d, want %d, %d, %d", s.Phase(), s.Cycles(), s.Room(), phase, cycles, room)
		}
	}
	if s.Step() || s.Finish() != 0 {
		t.Error("an idle collector's step ends something")
	}
	expect(0, 0, 15)
	s.Pick([]api.Word{w})
	for range 4 {
		if s.Step() {
			t.Error("a step ends the cycle too early")
		}
	}
	expect(2, 0, 17)
	if !s.Step() {
		t.Error("the last step does not tell")
	}
	expect(0, 1, 17)
	s.Pick(nil)
	if n := s.Finish(); n != 3 {
		t.Errorf("Finish() = %d", n)
	}
	expect(0, 2, 19)
	if s.Step() || s.Finish() != 0 {
		t.Error("an idle collector's step ends something")
	}
	expect(0, 2, 19)
}
