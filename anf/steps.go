package anf

import (
	"maps"
	"slices"

	"marquetry/api"
	"marquetry/word"
)

// step executes a step of the running function, with what its Atoms are: it calls something, raises something, or gives its
// result.
func (m *machine) step(s *api.Step, l []value) {
	switch s.Kind {
	case api.StepOp:
		m.operate(int(s.N), l)
	case api.StepCall:
		m.call(as[*closure](l[0]), l[1])
	case api.StepKnown:
		c := as[*closure](l[0])
		if c.function != s.N {
			panic(end{kind: api.Stuck})
		}
		m.call(c, l[1])
	case api.StepTry:
		first, second := as[*closure](l[0]), as[*closure](l[1])
		m.running.handler = second
		m.call(first, number(0))
	default:
		m.give(m.made(s, l))
	}
}

// made returns the result of a step that neither calls nor raises.
func (m *machine) made(s *api.Step, l []value) value {
	switch s.Kind {
	case api.StepClosure:
		return &closure{s.N, l}
	case api.StepCapture:
		return as[*closure](m.running.find(0)).captured[s.N]
	case api.StepRecord:
		return recordOf(s.Ns, l)
	case api.StepWith:
		return as[record](l[0]).with(s.N, l[1])
	case api.StepField:
		return as[record](l[0]).field(s.N)
	case api.StepTag:
		return tagged{s.N, l[0]}
	case api.StepTagOf:
		return number(as[tagged](l[0]).tag)
	case api.StepUntag:
		return as[tagged](l[0]).content
	case api.StepSame:
		return truth(as[text](l[0]) == as[text](l[1]))
	}
	return l[0] // StepMove
}

// truth returns the number that stands for a boolean.
func truth(b bool) value {
	if b {
		return number(1)
	}
	return number(0)
}

// recordOf returns the record that has these values at these labels.
func recordOf(labels []int64, l []value) record {
	r := make(record, len(l))
	for i, v := range l {
		r[labels[i]] = v
	}
	return r
}

// with returns a record that has a value at a label, and otherwise what r has.
func (r record) with(label int64, v value) record {
	w := maps.Clone(r)
	w[label] = v
	return w
}

// field returns the value at a label. If there is none, the run is stuck.
func (r record) field(label int64) value {
	if v, ok := r[label]; ok {
		return v
	}
	panic(end{kind: api.Stuck})
}

// unit is what stands for the unit.
const unit = number(0)

// operate executes a StepOp.
func (m *machine) operate(op int, l []value) {
	switch op {
	case api.OpRef:
		m.give(&reference{l[0]})
	case api.OpDeref:
		m.give(as[*reference](l[0]).content)
	case api.OpAssign:
		as[*reference](l[0]).content = l[1]
		m.give(unit)
	case api.OpArray:
		m.array(as[number](l[0]), l[1])
	case api.OpGet:
		m.get(as[array](l[0]), as[number](l[1]))
	case api.OpSet:
		m.set(as[array](l[0]), as[number](l[1]), l[2])
	case api.OpLen:
		m.give(number(len(as[array](l[0]))))
	case api.OpSize:
		m.give(number(len(as[text](l[0]))))
	case api.OpByte:
		m.byteAt(as[text](l[0]), as[number](l[1]))
	case api.OpCat:
		m.cat(as[text](l[0]), as[text](l[1]))
	case api.OpGetc:
		m.getc(as[number](l[0]))
	case api.OpPutc:
		m.out = append(m.out, byte(as[number](l[0])))
		m.give(unit)
	default:
		m.reckon(op, l)
	}
}

// fail raises an exception that each program has.
func (m *machine) fail(name string) {
	n, _ := slices.BinarySearch(m.prog.Exns, name)
	m.raise(int64(n))
}

// reckon gives what word.Do makes of numbers.
func (m *machine) reckon(op int, l []value) {
	var n [2]int64
	for i, v := range l {
		n[i] = int64(as[number](v))
	}
	r, errno := word.Do(op, n[0], n[1])
	if errno != api.OK {
		m.fail("Divide")
		return
	}
	m.give(number(r))
}

// array gives a new array of n elements.
func (m *machine) array(n number, v value) {
	if n < 0 || n > api.MaxArray {
		m.fail("Size")
		return
	}
	m.give(array(slices.Repeat([]value{v}, int(n))))
}

// get gives an element of an array.
func (m *machine) get(a array, i number) {
	if !below(int64(i), len(a)) {
		m.fail("Bounds")
		return
	}
	m.give(a[i])
}

// set replaces an element of an array.
func (m *machine) set(a array, i number, v value) {
	if !below(int64(i), len(a)) {
		m.fail("Bounds")
		return
	}
	a[i] = v
	m.give(unit)
}

// byteAt gives a byte of a string.
func (m *machine) byteAt(s text, i number) {
	if !below(int64(i), len(s)) {
		m.fail("Bounds")
		return
	}
	m.give(number(s[i]))
}

// cat gives one string and then another as one.
func (m *machine) cat(a, b text) {
	if len(a)+len(b) > api.MaxText {
		m.fail("Size")
		return
	}
	m.give(a + b)
}

// getc gives the next byte of the input.
func (m *machine) getc(number) {
	if m.input == "" {
		m.give(number(-1))
		return
	}
	c := m.input[0]
	m.input = m.input[1:]
	m.give(number(c))
}
