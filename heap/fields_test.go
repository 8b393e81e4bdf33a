package heap

import (
	"testing"

	"marquetry/api"
)

// TestFieldsEndWithTheirObject: what is appended to the fields of an object does not reach the one behind it.
func TestFieldsEndWithTheirObject(t *testing.T) {
	h := New(10)
	for size := range 3 {
		if _, e := h.Alloc(api.KindArray, size); e != api.OK {
			t.Fatal(e)
		}
	}
	for _, at := range []int{1, 2, 4} {
		fields := h.fields(at)
		if cap(fields) != len(fields) {
			t.Errorf("the fields of the object at %d: %d, with space for %d", at, len(fields), cap(fields))
		}
		before := h.Copy()
		if longer := append(fields, 99); longer[len(fields)] != 99 {
			t.Error("append")
		}
		for cell := range h.cells {
			if h.cells[cell] != before.cells[cell] {
				t.Errorf("what was appended to the object at %d is in cell %d", at, cell)
			}
		}
	}
}
