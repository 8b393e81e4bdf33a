package eval

import (
	"maps"
	"strconv"
	"strings"

	"marquetry/api"
	"marquetry/word"
)

// A value is what a term evaluates to. It has its method so that nothing else passes for one.
type value interface{ isValue() }

type (
	number    int64
	boolean   bool
	text      string
	unit      struct{}
	exception string
	record    map[string]value
	array     []value
)

// A function is a TFun with what the variables around it are bound to.
type function struct {
	v     int // the variable that is bound to what the function is applied to
	body  *api.Term
	scope *scope
}

type tagged struct {
	tag     string
	content value
}

// A reference is used by its address alone: that is its identity.
type reference struct{ content value }

func (number) isValue()     {}
func (boolean) isValue()    {}
func (text) isValue()       {}
func (unit) isValue()       {}
func (exception) isValue()  {}
func (*function) isValue()  {}
func (record) isValue()     {}
func (tagged) isValue()     {}
func (*reference) isValue() {}
func (array) isValue()      {}

// as returns a value as one of a kind. With a value of another kind the evaluation is stuck.
func as[K value](v value) K {
	if k, ok := v.(K); ok {
		return k
	}
	panic(end{kind: api.Stuck})
}

// shown returns the text of a result.
func shown(v value) string {
	switch v := v.(type) {
	case number:
		return word.Text(int64(v))
	case boolean:
		return strconv.FormatBool(bool(v))
	case text:
		return word.Quote(string(v))
	case unit:
		return "()"
	case exception:
		return strings.Clone(string(v)) // The name itself is the term's memory.
	case *function:
		return "<fun>"
	case record:
		return "<record>"
	case tagged:
		return "<tag>"
	case *reference:
		return "<ref>"
	}
	return "<array>"
}

// recordOf returns the record that has these values at these labels.
func recordOf(labels []string, l []value) record {
	r := make(record, len(l))
	for i, v := range l {
		r[labels[i]] = v
	}
	return r
}

// with returns a record that has a value at a label, and otherwise what r has.
func (r record) with(label string, v value) record {
	w := maps.Clone(r)
	w[label] = v
	return w
}

// field returns the value at a label. If there is none, the evaluation is stuck.
func (r record) field(label string) value {
	if v, ok := r[label]; ok {
		return v
	}
	panic(end{kind: api.Stuck})
}
