package infer

import (
	"testing"

	"marquetry/api"
	"marquetry/row"
)

// TestRecord: what is handed to a solver is valid, in whatever order the fields are found.
func TestRecord(t *testing.T) {
	num, text := plain(api.TyInt), plain(api.TyString)
	for _, l := range [][]api.Field{
		{},
		{present("a", num)},
		{present("b", num), present("a", text)},
		{present("b", num), present("a", text), present("ba", num), present("B", num)},
		{present("c", num), {Label: "b", Pres: api.PresVar, P: 1, T: text}, present("a", num)},
	} {
		if r := record(l, 2); !row.May(r) || len(r.Row.Fields) != len(l) {
			t.Errorf("%+v", r)
		}
	}
}
