package vm

import (
	"tipstaff/api"
	"tipstaff/bmap"
	"tipstaff/region"
)

// Numbers of helpers.
const (
	helperLookup = 1
	helperUpdate = 2
	helperDelete = 3
	helperClock  = 5
	helperRandom = 7
	helperPush   = 87
	helperPop    = 88
	helperPeek   = 89
)

// mostArgs is how many registers, from 1 on, a helper may use up.
const mostArgs = 5

// call lets a helper do its work; false, if it can't.
func (m *machine) call(helper int32) bool {
	answer, ok := m.help(helper)
	if !ok {
		return false
	}
	m.r[0] = answer
	for i := 1; i <= mostArgs; i++ {
		m.r[i] = region.Val{}
	}
	return true
}

// help is what a helper answers in register 0.
func (m *machine) help(helper int32) (region.Val, bool) {
	switch helper {
	case helperLookup:
		return m.lookup()
	case helperUpdate:
		return m.update()
	case helperDelete:
		return m.remove()
	case helperClock:
		return number(m.clock), true
	case helperRandom:
		return number(m.nextRandom()), true
	case helperPush:
		return m.push()
	case helperPop:
		return m.pop()
	case helperPeek:
		return m.peek()
	}
	return region.Val{}, false
}

func (m *machine) lookup() (region.Val, bool) {
	of, key, ok := m.entry()
	if !ok {
		return region.Val{}, false
	}
	cell, err := of.Cell(key)
	if err != api.OK {
		return number(0), true
	}
	return region.Val{Tag: region.Cell, Slot: m.r[1].Slot, Cell: cell}, true
}

func (m *machine) update() (region.Val, bool) {
	of, key, ok := m.entry()
	if !ok || of.Frozen() {
		return region.Val{}, false
	}
	value, err := m.memory.Bytes(m.r[3], of.Spec().Value)
	if flags := m.r[4]; err == api.OK && isNumber(flags) {
		return less(of.Update(key, value, flags.N)), true
	}
	return region.Val{}, false
}

func (m *machine) remove() (region.Val, bool) {
	of, key, ok := m.entry()
	if !ok || of.Frozen() || of.Spec().Type == api.Array {
		return region.Val{}, false
	}
	return less(of.Delete(key)), true
}

func (m *machine) push() (region.Val, bool) {
	of, ok := m.line()
	if !ok || of.Frozen() {
		return region.Val{}, false
	}
	value, err := m.memory.Bytes(m.r[2], of.Spec().Value)
	if flags := m.r[3]; err == api.OK && isNumber(flags) {
		return less(of.Push(value, flags.N)), true
	}
	return region.Val{}, false
}

func (m *machine) pop() (region.Val, bool) {
	of, ok := m.line()
	if !ok || of.Frozen() {
		return region.Val{}, false
	}
	// The value goes only when it has come through: a step that can't be done takes nothing away.
	answer, ok := m.peek()
	if ok {
		of.Pop()
	}
	return answer, ok
}

func (m *machine) peek() (region.Val, bool) {
	of, ok := m.line()
	if !ok {
		return region.Val{}, false
	}
	value, err := of.Peek()
	if err != api.OK {
		value = make([]byte, of.Spec().Value)
	}
	if m.memory.Fill(m.r[2], value) != api.OK {
		return region.Val{}, false
	}
	return less(err), true
}

// entry is the map of register 1, if it has keys, and the key of register 2.
func (m *machine) entry() (*bmap.Map, []byte, bool) {
	of := m.mapIn()
	if of == nil || isLine(of) {
		return nil, nil, false
	}
	key, err := m.memory.Bytes(m.r[2], of.Spec().Key)
	return of, key, err == api.OK
}

// line is the map of register 1, if its values stand in a row.
func (m *machine) line() (*bmap.Map, bool) {
	of := m.mapIn()
	return of, of != nil && isLine(of)
}

// mapIn is the map of register 1, nil, if it has none.
func (m *machine) mapIn() *bmap.Map {
	if m.r[1].Tag != region.Map {
		return nil
	}
	return m.memory.Map(m.r[1].Slot)
}

func isLine(of *bmap.Map) bool {
	kind := of.Spec().Type
	return kind == api.Queue || kind == api.Stack
}

func (m *machine) nextRandom() uint64 {
	if len(m.random) == 0 {
		return 0
	}
	x := m.random[0]
	m.random = m.random[1:]
	return x
}

// less is nought less an error.
func less(err api.Errno) region.Val {
	return number(-uint64(err))
}
