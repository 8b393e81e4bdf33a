package anf

import (
	"strconv"
	"strings"

	"marquetry/api"
	"marquetry/word"
)

// A value is what a variable of a program is bound to. It has its method so that nothing else passes for one.
type value interface{ isValue() }

type (
	number int64
	text   string
	record map[int64]value // by the numbers of labels
	array  []value
)

type closure struct {
	function int64
	captured []value
}

type tagged struct {
	tag     int64
	content value
}

// A reference is used by its address alone: that is its identity.
type reference struct{ content value }

func (number) isValue()     {}
func (text) isValue()       {}
func (record) isValue()     {}
func (array) isValue()      {}
func (*closure) isValue()   {}
func (tagged) isValue()     {}
func (*reference) isValue() {}

// as returns a value as one of a kind. With a value of another kind the run is stuck.
func as[K value](v value) K {
	if k, ok := v.(K); ok {
		return k
	}
	panic(end{kind: api.Stuck})
}

// shown returns the text of a result.
func (m *machine) shown(v value) string {
	switch v := v.(type) {
	case number:
		return m.shownNumber(int64(v))
	case text:
		return word.Quote(string(v))
	case record:
		return "<record>"
	case array:
		return "<array>"
	case *closure:
		return "<fun>"
	case tagged:
		return "<tag>"
	}
	return "<ref>"
}

// shownNumber returns the text of a number, which may stand for something else: that is told by the kind of the result's type.
func (m *machine) shownNumber(n int64) string {
	switch m.kind {
	case api.TyBool:
		return strconv.FormatBool(n != 0)
	case api.TyUnit:
		return "()"
	case api.TyExn:
		return m.exception(n)
	}
	return word.Text(n)
}

// exception returns the name of an exception. If there is none with this number, the run is stuck.
func (m *machine) exception(n int64) string {
	if !below(n, len(m.prog.Exns)) {
		panic(end{kind: api.Stuck})
	}
	return strings.Clone(m.prog.Exns[n]) // The name itself is the program's memory.
}
