package verify_test

import (
	"math"
	"math/rand/v2"
	"testing"

	"tipstaff/api"
	"tipstaff/bmap"
	"tipstaff/verify"
	"tipstaff/vm"
)

// maker makes programs by chance, of phrases most of which can be done. It keeps of each register what it likely has.
type maker struct {
	chance *rand.Rand
	specs  []bmap.Spec
	l      []api.Insn
	kind   [10]int
	slot   [10]int
}

// Kinds of what a register likely has.
const (
	likelyNothing = iota
	likelyNumber
	likelyStack
	likelyCtx
	likelyCell
	likelyMaybe
)

func (m *maker) add(l ...api.Insn) { m.l = append(m.l, l...) }

func (m *maker) often() bool { return m.chance.IntN(12) > 0 }

func (m *maker) of(all ...int32) int32 { return all[m.chance.IntN(len(all))] }

func (m *maker) size() int { return 1 << m.chance.IntN(4) }

// any is a register that has something of a kind, mostly; false, if there is none.
func (m *maker) any(kind int) (uint8, bool) {
	from := m.chance.IntN(10)
	for i := range 10 {
		if r := (from + i) % 10; m.kind[r] == kind || m.chance.IntN(200) == 0 {
			return uint8(r), true
		}
	}
	return 0, false
}

// kept is a register that stays over calls.
func (m *maker) kept() uint8 { return uint8(6 + m.chance.IntN(4)) }

func (m *maker) has(r uint8, kind, slot int) { m.kind[r], m.slot[r] = kind, slot }

// newNumber has a number that isn't known, or one alone, in a register.
func (m *maker) newNumber() {
	r := m.kept()
	ctx, there := m.any(likelyCtx)
	switch {
	case there && m.chance.IntN(2) == 0:
		m.add(load(m.size(), r, ctx, int16(m.chance.IntN(26))))
	case m.chance.IntN(2) == 0:
		m.add(movTo(r, m.of(0, 1, 2, 7, 8, 13, 63, 64, -1, -8, math.MaxInt32, math.MinInt32)))
	default:
		m.add(wide(r, edges[m.chance.IntN(len(edges))])...)
	}
	m.has(r, likelyNumber, 0)
}

var edges = []uint64{0, 1, 8, 1 << 31, 1<<31 - 1, 1 << 32, 1<<32 + 8, 1 << 63, 1<<63 - 1, math.MaxUint64, math.MaxUint64 - 7, math.MaxUint32, math.MaxUint32 - 7}

// reckon does any operation of numbers.
func (m *maker) reckon() {
	r, there := m.any(likelyNumber)
	if !there {
		return
	}
	class := uint8(m.of(4, 7, 7))
	op := uint8(m.chance.IntN(13)) << 4
	other, _ := m.any(likelyNumber)
	switch {
	case op == 0x80:
		m.add(api.Insn{Op: op | class, Dst: r})
	case m.chance.IntN(2) == 0:
		m.add(api.Insn{Op: op | class | 8, Dst: r, Src: other})
	default:
		imm := m.of(1, 2, 3, 5, 7, 8, 12, 15, 16, 24, 30, 31)
		if op < 0x60 || op > 0x70 && op != 0xc0 {
			imm = m.of(1, 2, 3, 7, 8, 15, 16, 31, 255, -1, -8, 1<<30, math.MinInt32)
		}
		m.add(api.Insn{Op: op | class, Dst: r, Imm: imm})
	}
}

// bound has a number little, so that places may be moved by it.
func (m *maker) bound() {
	r, there := m.any(likelyNumber)
	if !there {
		return
	}
	class := uint8(m.of(4, 7))
	switch m.chance.IntN(5) {
	case 0:
		m.add(api.Insn{Op: 0x90 | class, Dst: r, Imm: m.of(1, 3, 7, 9, 17)})
	case 1:
		m.add(api.Insn{Op: 0x70 | class, Dst: r, Imm: m.of(26, 28, 29, 30)})
	case 2:
		m.add(api.Insn{Op: 0x60 | class, Dst: r, Imm: 28}, api.Insn{Op: 0xc0 | class, Dst: r, Imm: m.of(28, 29, 30)})
	default:
		m.add(api.Insn{Op: 0x50 | class, Dst: r, Imm: m.of(0, 1, 3, 6, 7, 8, 15)})
	}
}

// walk moves a cell's place by a number that was loaded, reckoned with, and mostly bounded by a jump; and goes there.
func (m *maker) walk() {
	cell, there := m.any(likelyCell)
	ctx, known := m.any(likelyCtx)
	if !there || !known {
		return
	}
	r := m.kept()
	for r == cell || r == ctx {
		r = m.kept()
	}
	m.add(load(m.size(), r, ctx, int16(m.chance.IntN(25))))
	m.has(r, likelyNumber, 0)
	for range m.chance.IntN(3) {
		m.reckon()
	}
	if m.chance.IntN(3) == 0 {
		least, most := m.of(0, 0, 1, -1, -7), m.of(0, 3, 7, 8, 15)
		m.add(
			api.Insn{Op: uint8(m.of(0xc5, 0xc6, 0xa5)), Dst: r, Imm: least, Off: 1}, api.Insn{Op: uint8(m.of(0xb5, 0xd5, 0xd6)), Dst: r, Imm: most, Off: 2},
			movTo(0, 1), exit)
	} else {
		m.bound()
	}
	m.add(api.Insn{Op: uint8(m.of(0x0f, 0x0f, 0x1f)), Dst: cell, Src: r})
	off := int16(m.of(0, 0, 1, 4, 7, 8))
	if m.chance.IntN(2) == 0 {
		m.add(load(m.size(), r, cell, off))
	} else {
		m.add(store(m.size(), cell, off, 1))
	}
}

// branch goes over some phrases, or not; back, if it is a loop.
func (m *maker) branch(depth int) {
	r, there := m.any(likelyNumber)
	if !there {
		return
	}
	op := uint8(m.of(1, 2, 3, 4, 5, 6, 7, 10, 11, 12, 13))<<4 | uint8(m.of(5, 5, 6))
	x := api.Insn{Op: op, Dst: r, Imm: m.of(0, 1, 3, 7, 8, 15, 16, -1, -8, 64, math.MaxInt32, math.MinInt32)}
	if other, there := m.any(likelyNumber); there && m.chance.IntN(3) == 0 {
		x.Op, x.Src, x.Imm = x.Op|8, other, 0
	}
	from := len(m.l)
	back := m.chance.IntN(8) == 0
	if !back {
		m.add(x)
	}
	before, slots := m.kind, m.slot
	for range 1 + m.chance.IntN(2) {
		m.phrase(depth + 1)
	}
	if back {
		x.Off = int16(from - len(m.l) - 1)
		m.add(x)
	} else {
		// Where it doesn't go over, it mostly comes to its end: then the jump tells something of what comes.
		if m.chance.IntN(3) > 0 {
			m.add(movTo(0, 1), exit)
			m.kind, m.slot = before, slots
		}
		m.l[from].Off = int16(len(m.l) - from - 1)
	}
	for i, kind := range before {
		if m.kind[i] != kind {
			m.kind[i] = likelyNothing
		}
	}
}

// slotFor is that of a map that mostly suits a helper.
func (m *maker) slotFor(helper int32) int {
	slot := m.chance.IntN(len(m.specs))
	for isLine := m.specs[slot].Key == 0; isLine != (helper >= 87) && m.often(); isLine = m.specs[slot].Key == 0 {
		slot = m.chance.IntN(len(m.specs))
	}
	return slot
}

// find looks up a key, and mostly asks whether there is a cell.
func (m *maker) find() {
	slot := m.slotFor(1)
	m.add(wideMap(1, int32(slot))...)
	m.add(move(2, 10), addTo(2, m.of(-16, -16, -16, -16, -16, -8, -20, -24)), call(1))
	m.behindCall()
	r := m.kept()
	m.add(move(r, 0))
	m.has(r, likelyMaybe, slot)
	m.has(0, likelyMaybe, slot)
	if m.chance.IntN(3) > 0 {
		m.ask()
	}
}

// ask asks whether there is a cell: where there is none, it comes to its end, mostly.
func (m *maker) ask() {
	r, there := m.any(likelyMaybe)
	if !there {
		return
	}
	switch m.chance.IntN(8) {
	case 0:
		m.add(jeq(r, 0, 2), movTo(0, 1), exit)
	case 1:
		m.add(jne(r, 0, 0))
	default:
		m.add(jne(r, 0, 2), movTo(0, 1), exit)
	}
	for i := range m.kind {
		if m.kind[i] == likelyMaybe {
			m.kind[i] = likelyCell
		}
	}
}

// shift moves a place by a number, or by a register's.
func (m *maker) shift() {
	kind := int(m.of(likelyCell, likelyCell, likelyCell, likelyStack, likelyCtx))
	r, there := m.any(kind)
	n, some := m.any(likelyNumber)
	switch {
	case !there:
	case some && m.chance.IntN(2) == 0:
		m.add(api.Insn{Op: uint8(m.of(0x0f, 0x0f, 0x1f)), Dst: r, Src: n})
	case some && m.chance.IntN(6) == 0:
		m.add(addOf(n, r))
		m.has(n, kind, m.slot[r])
	default:
		m.add(api.Insn{Op: uint8(m.of(0x07, 0x17)), Dst: r, Imm: m.of(0, 1, 2, 4, 7, 8, 16, -1, -4, -8, 64)})
	}
}

// touch loads from a place, or writes there.
func (m *maker) touch() {
	r, there := m.any(int(m.of(likelyCell, likelyCell, likelyStack, likelyCtx)))
	n, some := m.any(likelyNumber)
	if !there {
		return
	}
	off := int16(m.of(0, 0, 1, 2, 4, 7, 8, 9, -1, -4, -8))
	size := m.size()
	switch m.chance.IntN(5) {
	case 0:
		m.add(store(size, r, off, m.of(0, 1, -1)))
	case 1:
		if some {
			m.add(storeOf(size, r, off, n))
		}
	case 2:
		if some {
			m.add(api.Insn{Op: uint8(m.of(0xc3, 0xdb)), Dst: r, Src: n, Off: off, Imm: m.of(0, 64, 80, 160)})
		}
	default:
		to := m.kept()
		m.add(load(size, to, r, off))
		m.has(to, likelyNumber, 0)
	}
}

// spill saves a register in the stack, or loads one from there.
func (m *maker) spill() {
	at := int16(m.of(-64, -56, -48, -40, -32, -24, -16, -8))
	r := uint8(m.chance.IntN(11))
	if r < 10 && m.kind[r] == likelyNothing && m.often() {
		r = m.kept()
	}
	size := 8
	if m.chance.IntN(4) == 0 {
		size = m.size()
		at += int16(m.chance.IntN(4))
	}
	m.add(storeOf(size, 10, at, r))
	kind, slot := likelyStack, 0
	if r < 10 {
		kind, slot = m.kind[r], m.slot[r]
	}
	if m.chance.IntN(3) == 0 {
		m.phrase(2)
	}
	if m.chance.IntN(2) == 0 {
		to := m.kept()
		m.add(load(size, to, 10, at))
		m.has(to, kind, slot)
	}
}

// help calls a helper other than lookup.
func (m *maker) help() {
	helper := m.of(2, 3, 5, 7, 87, 88, 89)
	m.add(wideMap(1, int32(m.slotFor(helper)))...)
	for _, r := range []uint8{2, 3} {
		if from, there := m.any(int(m.of(likelyCell, likelyStack, likelyCtx))); there && m.chance.IntN(3) == 0 {
			m.add(move(r, from))
			continue
		}
		m.add(move(r, 10), addTo(r, m.of(-16, -16, -8, -24, -32, -64)))
	}
	if helper == 87 {
		m.add(movTo(3, m.of(0, 0, 1)))
	}
	m.add(movTo(4, m.of(0, 0, 1, 2, 3)), call(helper))
	m.behindCall()
	m.has(0, likelyNumber, 0)
}

func (m *maker) behindCall() {
	for r := range uint8(6) {
		m.has(r, likelyNothing, 0)
	}
}

// either has one of two things done: the ways come together again.
func (m *maker) either() {
	cell, found := m.any(likelyCell)
	ctx, there := m.any(likelyCtx)
	if !there {
		return
	}
	r := m.kept()
	for r == cell || r == ctx {
		r = m.kept()
	}
	at := int16(m.of(-24, -32, -40))
	var one, other, on []api.Insn
	switch n := m.of(0, 0, 8, 12); m.chance.IntN(4) {
	case 0:
		one, other = append(one, movTo(r, n)), append(other, movTo(r, m.of(0, 4, 8, 9)))
		on = append(on, addOf(r, ctx), load(8, r, r, 16))
		if found && m.often() {
			on = []api.Insn{addOf(r, cell), load(1, r, r, 0)}
		}
	case 1:
		one, other = append(one, store(8, 10, at, 0)), append(other, store(m.size(), 10, at, 0))
		on = append(on, load(m.size(), r, 10, at))
	case 2:
		one, other = append(one, storeOf(8, 10, at, ctx)), append(other, storeOf(8, 10, at, uint8(m.of(int32(cell), int32(ctx), 7))))
		on = append(on, load(8, r, 10, at), load(m.size(), r, r, int16(n)))
	default:
		one, other = append(one, move(r, ctx)), append(other, move(r, uint8(m.of(int32(cell), int32(ctx), 7))))
		on = append(on, load(m.size(), r, r, int16(n)))
	}
	// Behind it nothing else tells which way it was: so one of them may cover the other one.
	m.add(load(1, 0, ctx, int16(m.chance.IntN(20))), jeq(0, m.of(0, 1, 8, 255), int16(len(one)+2)), movTo(0, 0))
	m.add(one...)
	m.add(always(int16(len(other)+1)), movTo(0, 0))
	m.add(other...)
	m.add(on...)
	m.has(0, likelyNumber, 0)
	m.has(r, likelyNumber, 0)
}

func (m *maker) phrase(depth int) {
	switch m.chance.IntN(20) {
	case 0, 1:
		m.newNumber()
	case 2, 3:
		m.reckon()
	case 4, 5:
		m.bound()
	case 6:
		if depth < 3 {
			m.branch(depth)
		}
	case 7, 8:
		m.find()
	case 9, 10:
		m.shift()
	case 11, 12:
		m.touch()
	case 13:
		m.spill()
	case 14:
		m.help()
	case 15:
		m.ask()
	case 16, 17:
		m.walk()
	case 18, 19:
		m.either()
	}
}

// make is a whole program; now and then one of its instructions is turned into another one.
func (m *maker) make() []api.Insn {
	m.l, m.kind, m.slot = nil, [10]int{1: likelyCtx}, [10]int{}
	for at := int16(-64); at < 0; at += 8 {
		if at == -16 || m.chance.IntN(3) > 0 {
			m.add(store(8, 10, at, m.of(0, 0, 1, 8)))
		}
	}
	if m.often() {
		m.add(move(6, 1), move(7, 10), addTo(7, m.of(-8, -16, -32, -64)))
		m.kind[6], m.kind[7] = likelyCtx, likelyStack
	}
	if m.chance.IntN(2) == 0 {
		m.find()
		m.ask()
		for range 1 + m.chance.IntN(2) {
			m.walk()
		}
	}
	for range 1 + m.chance.IntN(9) {
		m.phrase(0)
	}
	m.add(movTo(0, 0), exit)
	if m.chance.IntN(6) == 0 {
		x := &m.l[m.chance.IntN(len(m.l))]
		switch m.chance.IntN(4) {
		case 0:
			x.Dst = uint8(m.chance.IntN(11))
		case 1:
			x.Src = uint8(m.chance.IntN(11))
		case 2:
			x.Off = int16(m.chance.IntN(9) - 4)
		case 3:
			x.Imm = int32(m.chance.IntN(20) - 10)
		}
	}
	return m.l
}

// someSpecs are those of four slots.
func someSpecs(chance *rand.Rand) []bmap.Spec {
	all := make([]bmap.Spec, 4)
	for i := range all {
		s := bmap.Spec{Type: chance.IntN(api.MapTypes), Value: []int{1, 4, 8, 16, 16, 64, 64}[chance.IntN(7)], Entries: 1 + chance.IntN(3)}
		switch s.Type {
		case api.Array:
			s.Key = 4
		case api.Hash, api.LRU:
			s.Key = []int{1, 4, 8, 16}[chance.IntN(4)]
		case api.Prefix:
			s.Key = []int{5, 8, 16}[chance.IntN(3)]
		}
		all[i] = s
	}
	return all
}

// bytesByChance are mostly such as numbers at their ends have.
func bytesByChance(chance *rand.Rand, b []byte) {
	for i := range b {
		b[i] = []byte{0, 0, 0, 1, 8, 0x7f, 0x80, 0xff, 0xff, byte(chance.Uint32())}[chance.IntN(10)]
	}
	if chance.IntN(3) == 0 {
		clear(b)
	}
}

// someWorld is one whose maps are of those specs, and frozen so.
func someWorld(t *testing.T, chance *rand.Rand, e verify.Env) vm.World {
	w := vm.World{Clock: chance.Uint64(), Random: []uint64{chance.Uint64(), 0, math.MaxUint64}, Fuel: api.MaxFuel}
	if chance.IntN(8) == 0 {
		w.Fuel = chance.IntN(40)
	}
	bytesByChance(chance, w.Ctx[:])
	for slot, spec := range e.Specs {
		m, err := bmap.New(spec)
		if err != api.OK {
			t.Fatal(spec, err)
		}
		for range chance.IntN(3) {
			key, value := make([]byte, spec.Key), make([]byte, spec.Value)
			if chance.IntN(3) == 0 && len(key) > 0 {
				key[0] = byte(1 + chance.IntN(8))
			}
			bytesByChance(chance, value)
			m.Update(key, value, 0)
			m.Push(value, 0)
		}
		if slot < len(e.Frozen) && e.Frozen[slot] {
			m.Freeze()
		}
		w.Maps = append(w.Maps, m)
	}
	return w
}

// howMany programs are made by chance.
const howMany = 10000

// P18.2, P18.3: programs by chance: no run of what is accepted ends by EFAULT; and what is accepted without privilege is
// accepted with it, with no fewer steps left.
func TestWhatIsAcceptedIsSafe(t *testing.T) {
	chance := rand.New(rand.NewPCG(18, 2))
	accepted, privileged, faults := 0, 0, 0
	for range howMany {
		m := &maker{chance: chance, specs: someSpecs(chance)}
		l := m.make()
		e := verify.Env{Specs: m.specs, Frozen: []bool{chance.IntN(4) == 0, chance.IntN(4) == 0, chance.IntN(4) == 0}, Privileged: true}
		with, err := verify.Check(l, e)
		e.Privileged = false
		without, other := verify.Check(l, e)
		if other == api.OK && (err != api.OK || with.Steps > without.Steps) {
			t.Fatalf("%v: %+v, %d, but without privilege %+v", l, with, err, without)
		}
		if err == api.OK {
			accepted++
			if other != api.OK {
				privileged++
			}
		}
		for range 12 {
			got := vm.Run(l, someWorld(t, chance, e))
			if got.Err != api.EFAULT {
				continue
			}
			if err == api.OK {
				t.Fatalf("%v, %+v: %+v", l, e, got)
			}
			faults++
		}
	}
	if accepted < howMany/20 || privileged < howMany/200 || faults < howMany/4 {
		t.Error(accepted, privileged, faults)
	}
}
