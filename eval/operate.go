package eval

import (
	"marquetry/api"
	"marquetry/word"
)

// operate ends a TOp.
func (m *machine) operate(op int, args []value) {
	switch op {
	case api.OpNot:
		m.give(!as[boolean](args[0]))
	case api.OpRef:
		m.give(&reference{args[0]})
	case api.OpDeref:
		m.give(as[*reference](args[0]).content)
	case api.OpAssign:
		as[*reference](args[0]).content = args[1]
		m.give(unit{})
	case api.OpArray:
		m.array(as[number](args[0]), args[1])
	case api.OpGet:
		m.get(as[array](args[0]), as[number](args[1]))
	case api.OpSet:
		m.set(as[array](args[0]), as[number](args[1]), args[2])
	case api.OpLen:
		m.give(number(len(as[array](args[0]))))
	case api.OpSize:
		m.give(number(len(as[text](args[0]))))
	case api.OpByte:
		m.byteAt(as[text](args[0]), as[number](args[1]))
	case api.OpCat:
		m.cat(as[text](args[0]), as[text](args[1]))
	case api.OpGetc:
		m.getc(as[unit](args[0]))
	case api.OpPutc:
		m.out = append(m.out, byte(as[number](args[0])))
		m.give(unit{})
	default:
		m.reckon(op, args)
	}
}

// reckon gives what word.Do makes of numbers.
func (m *machine) reckon(op int, args []value) {
	var n [2]int64
	for i, v := range args {
		n[i] = int64(as[number](v))
	}
	r, errno := word.Do(op, n[0], n[1])
	switch {
	case errno != api.OK:
		m.raise("Divide")
	case op == api.OpEq || op == api.OpLt:
		m.give(boolean(r == 1))
	default:
		m.give(number(r))
	}
}

// array gives a new array of n elements.
func (m *machine) array(n number, v value) {
	if n < 0 || n > api.MaxArray {
		m.raise("Size")
		return
	}
	a := make(array, n)
	for i := range a {
		a[i] = v
	}
	m.give(a)
}

// bounded reports whether there is an element i among so many. If there is none, Bounds is raised.
func (m *machine) bounded(i number, count int) bool {
	if 0 <= i && i < number(count) {
		return true
	}
	m.raise("Bounds")
	return false
}

// get gives an element of an array.
func (m *machine) get(a array, i number) {
	if m.bounded(i, len(a)) {
		m.give(a[i])
	}
}

// set replaces an element of an array.
func (m *machine) set(a array, i number, v value) {
	if m.bounded(i, len(a)) {
		a[i] = v
		m.give(unit{})
	}
}

// byteAt gives a byte of a string.
func (m *machine) byteAt(s text, i number) {
	if m.bounded(i, len(s)) {
		m.give(number(s[i]))
	}
}

// cat gives one string and then another as one.
func (m *machine) cat(a, b text) {
	if len(a)+len(b) > api.MaxText {
		m.raise("Size")
		return
	}
	m.give(a + b)
}

// getc gives the next byte of the input.
func (m *machine) getc(unit) {
	if m.input == "" {
		m.give(number(-1))
		return
	}
	c := m.input[0]
	m.input = m.input[1:]
	m.give(number(c))
}
