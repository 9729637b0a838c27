package vm_test

import (
	"math"
	"math/rand/v2"
	"slices"
	"testing"

	"tipstaff/api"
	"tipstaff/bmap"
	"tipstaff/branch"
	"tipstaff/insn"
	"tipstaff/scalar"
	"tipstaff/vm"
)

var exit = api.Insn{Op: 0x95}

func movTo(dst uint8, imm int32) api.Insn { return api.Insn{Op: 0xb7, Dst: dst, Imm: imm} }

func move(dst, src uint8) api.Insn { return api.Insn{Op: 0xbf, Dst: dst, Src: src} }

func addTo(dst uint8, imm int32) api.Insn { return api.Insn{Op: 0x07, Dst: dst, Imm: imm} }

func call(helper int32) api.Insn { return api.Insn{Op: 0x85, Imm: helper} }

func always(off int16) api.Insn { return api.Insn{Op: 0x05, Off: off} }

// sizeBits are those of an operation's byte that tell how many bytes.
func sizeBits(size int) uint8 {
	return map[int]uint8{1: 0x10, 2: 0x08, 4: 0x00, 8: 0x18}[size]
}

func load(size int, dst, src uint8, off int16) api.Insn {
	return api.Insn{Op: 0x61 | sizeBits(size), Dst: dst, Src: src, Off: off}
}

func store(size int, dst uint8, off int16, imm int32) api.Insn {
	return api.Insn{Op: 0x62 | sizeBits(size), Dst: dst, Off: off, Imm: imm}
}

func storeOf(size int, dst uint8, off int16, src uint8) api.Insn {
	return api.Insn{Op: 0x63 | sizeBits(size), Dst: dst, Off: off, Src: src}
}

func wide(dst uint8, x uint64) []api.Insn {
	return []api.Insn{{Op: 0x18, Dst: dst, Imm: int32(uint32(x))}, {Imm: int32(uint32(x >> 32))}}
}

func wideMap(dst uint8, slot int32) []api.Insn {
	return []api.Insn{{Op: 0x18, Dst: dst, Src: 1, Imm: slot}, {}}
}

func one(l ...api.Insn) []api.Insn { return l }

func program(parts ...[]api.Insn) []api.Insn { return slices.Concat(parts...) }

// newMap is one with entries: keys and values in turns.
func newMap(t testing.TB, s bmap.Spec, entries ...string) *bmap.Map {
	t.Helper()
	m, err := bmap.New(s)
	if err != api.OK {
		t.Fatal(err)
	}
	for ; len(entries) > 0; entries = entries[2:] {
		err := m.Update([]byte(entries[0]), []byte(entries[1]), 0)
		if s.Key == 0 {
			err = m.Push([]byte(entries[1]), 0)
		}
		if err != api.OK {
			t.Fatal(err)
		}
	}
	return m
}

// Bytes of what a program sees, none of them like another one.
const (
	ofStack = 0   // and up to 63
	ofCtx   = 100 // and up to 131
	ofCell  = 200 // and up to 215
)

func world(t testing.TB) vm.World {
	w := vm.World{Fuel: api.MaxFuel}
	for i := range w.Ctx {
		w.Ctx[i] = byte(ofCtx + i)
	}
	value := make([]byte, 16)
	for i := range value {
		value[i] = byte(ofCell + i)
	}
	w.Maps = []*bmap.Map{newMap(t, bmap.Spec{Type: api.Hash, Key: 1, Value: 16, Entries: 2}, "\x00", string(value))}
	return w
}

// Kinds of values.
const (
	nothing = iota
	number
	ofContext
	ofTheStack
	ofACell
	aMap
	kinds
)

// Where registers are that have a value of each kind, once ready is done. The places are 4 of the context, -20 of the stack,
// and 3 of the cell.
var with = [kinds]uint8{nothing: 5, number: 2, ofContext: 6, ofTheStack: 7, ofACell: 8, aMap: 9}

var places = map[int]struct{ first, at, count int }{
	ofContext:  {ofCtx, 4, 32},
	ofTheStack: {ofStack, 44, 64},
	ofACell:    {ofCell, 3, 16},
}

// ready is instructions behind which registers have values of all kinds, and the stack all its bytes.
func ready(x uint64) []api.Insn {
	var l []api.Insn
	for i := range int32(64) {
		l = append(l, store(1, 10, int16(i-64), ofStack+i))
	}
	return program(l, one(
		move(6, 1), addTo(6, 4), move(7, 10), addTo(7, -20), move(2, 10), addTo(2, -64),
	), wideMap(1, 0), wideMap(9, 0), one(
		call(1), move(8, 0), addTo(8, 3), movTo(0, 0),
	), wide(2, x))
}

// expect runs a program, and holds what comes against what is wanted.
func expect(t *testing.T, l []api.Insn, w vm.World, want vm.Result, about ...any) {
	t.Helper()
	if got := vm.Run(l, w); got != want {
		t.Errorf("%v: %+v, not %+v", about, got, want)
	}
}

// P20.1: the example, and counts of steps about it.
func TestFuel(t *testing.T) {
	l := one(movTo(0, 7), exit)
	for _, x := range []struct {
		fuel int
		want vm.Result
	}{
		{2, vm.Result{Value: 7, At: 1, Steps: 2}},
		{3, vm.Result{Value: 7, At: 1, Steps: 2}},
		{4096, vm.Result{Value: 7, At: 1, Steps: 2}},
		{4097, vm.Result{Value: 7, At: 1, Steps: 2}},
		{math.MaxInt, vm.Result{Value: 7, At: 1, Steps: 2}},
		{1, vm.Result{At: 1, Steps: 1, Err: api.ETIME}},
		{0, vm.Result{At: 0, Steps: 0, Err: api.ETIME}},
		{-1, vm.Result{At: 0, Steps: 0, Err: api.ETIME}},
		{-1 << 32, vm.Result{At: 0, Steps: 0, Err: api.ETIME}},
		{math.MinInt, vm.Result{At: 0, Steps: 0, Err: api.ETIME}},
	} {
		expect(t, l, vm.World{Fuel: x.fuel}, x.want, x.fuel)
	}
}

// P20.2: no run takes more steps than there is fuel, or 4096.
func TestEndlessRuns(t *testing.T) {
	l := one(movTo(0, 1), addTo(0, 1), always(-2))
	for _, fuel := range []int{1, 2, 3, 4, 100, 4095, 4096, 4097, 1 << 40, math.MaxInt} {
		steps := min(fuel, 4096)
		at := 0
		if steps > 0 {
			at = 1 + (steps-1)%2
		}
		expect(t, l, vm.World{Fuel: fuel}, vm.Result{At: at, Steps: steps, Err: api.ETIME}, fuel)
	}
	expect(t, one(always(-1)), vm.World{Fuel: 5000}, vm.Result{Steps: 4096, Err: api.ETIME}, "itself")
	long := append(slices.Repeat(one(movTo(0, 3)), 4095), exit)
	expect(t, long, vm.World{Fuel: 4096}, vm.Result{Value: 3, At: 4095, Steps: 4096}, "just enough")
	expect(t, append(one(movTo(0, 3)), long...), vm.World{Fuel: 9999}, vm.Result{At: 4096, Steps: 4096, Err: api.ETIME}, "one too many")
}

// P20.1: places at which there is no instruction; with no fuel left that isn't found.
func TestNoInstruction(t *testing.T) {
	for _, x := range []struct {
		name  string
		l     []api.Insn
		at    int
		steps int
	}{
		{"nothing", nil, 0, 0},
		{"behind the end", one(movTo(0, 1)), 1, 1},
		{"a jump behind the end", one(movTo(0, 1), always(0)), 2, 2},
		{"a far one", one(always(math.MaxInt16)), 1 << 15, 1},
		{"a jump ahead of all", one(always(-2)), -1, 1},
		{"a far one back", one(always(math.MinInt16)), -1<<15 + 1, 1},
		{"a comparison", one(movTo(0, 1), api.Insn{Op: 0x15, Imm: 1, Off: 5}), 7, 2},
		{"behind a wide", wide(0, 3), 2, 1},
		{"behind a call", one(call(5)), 1, 1},
	} {
		expect(t, x.l, vm.World{Fuel: x.steps + 1}, vm.Result{At: x.at, Steps: x.steps, Err: api.EFAULT}, x.name)
		expect(t, x.l, vm.World{Fuel: x.steps}, vm.Result{At: x.at, Steps: x.steps, Err: api.ETIME}, x.name)
	}
}

// P20.1: of each of all bytes, which registers may it name? None above 10, and to put something into, none but below 10.
func TestRegistersOfAllBytes(t *testing.T) {
	w := world(t)
	before := ready(8)
	for op := range 256 {
		kind := insn.Of(uint8(op)).Kind
		for _, reg := range []uint8{10, 11, 12, 15, 16, 127, 128, 255} {
			for _, x := range []api.Insn{{Op: uint8(op), Dst: reg}, {Op: uint8(op), Src: reg}, {Op: uint8(op), Dst: reg, Src: reg}} {
				l := program(before, one(x), one(api.Insn{}, exit, exit))
				got := vm.Run(l, w)
				fault := got.Err == api.EFAULT && got.At == len(before)
				putsIt := x.Dst == 10 && (kind == insn.ALU || kind == insn.Load || kind == insn.Wide)
				if (reg > 10 || putsIt || kind == insn.Bad || kind == insn.Second) && !fault {
					t.Errorf("%+v: %+v", x, got)
				}
			}
		}
	}
	// Register 10 may be read, and compared, and be what is stored behind.
	expect(t, one(
		store(8, 10, -8, 5), move(2, 10), storeOf(8, 10, -16, 10), load(8, 3, 10, -16), load(8, 0, 3, -8),
		api.Insn{Op: 0x15, Dst: 10, Off: 1}, exit, exit,
	), w, vm.Result{Value: 5, At: 6, Steps: 7})
}

// P20.1: Bad ones and Seconds can't be done.
func TestBadAndSecond(t *testing.T) {
	for op := range 256 {
		kind := insn.Of(uint8(op)).Kind
		if kind == insn.Bad || kind == insn.Second {
			expect(t, one(movTo(0, 1), api.Insn{Op: uint8(op)}, exit), world(t), vm.Result{At: 1, Steps: 1, Err: api.EFAULT}, op)
		}
	}
	expect(t, program(one(movTo(0, 1), always(1)), wide(0, 3), one(exit)), world(t), vm.Result{At: 3, Steps: 2, Err: api.EFAULT}, "into a wide")
}

// outcome is what is wanted of an instruction: a number, or a place, of which the byte is told that is there.
type outcome struct {
	ok, isPlace bool
	n           uint64
}

func numberOf(n uint64) outcome { return outcome{ok: true, n: n} }

// placeOf is that one of a kind so many further than ready has it; false, if none is there.
func placeOf(kind int, further int64) outcome {
	p := places[kind]
	i := int64(p.at) + further
	return outcome{ok: true, isPlace: true, n: uint64(int64(p.first) + i)}
}

// made is what an ALU instruction is to make of two values of those kinds; the numbers are x and y.
func made(op int, long bool, a, b int, x, y uint64) outcome {
	_, aPlace := places[a]
	_, bPlace := places[b]
	switch {
	case op == 8 && a == number:
		return numberOf(scalar.Eval(op, long, x, 0))
	case op == 8:
		return outcome{}
	case op == 11 && b == number:
		return numberOf(scalar.Eval(op, long, 0, y))
	case op == 11 && long && bPlace:
		return placeOf(b, 0)
	case op == 11 && long && b == aMap:
		return outcome{ok: true}
	case a == number && b == number:
		return numberOf(scalar.Eval(op, long, x, y))
	case long && op == 0 && aPlace && b == number:
		return placeOf(a, int64(y))
	case long && op == 0 && a == number && bPlace:
		return placeOf(b, int64(x))
	case long && op == 1 && aPlace && b == number:
		return placeOf(a, -int64(y))
	}
	return outcome{}
}

// see runs an instruction behind ready, and holds the register that it has put something into against what is wanted.
func see(t *testing.T, w vm.World, before []api.Insn, x api.Insn, want outcome, isMap bool) {
	t.Helper()
	l := program(before, one(x))
	n := len(l) - 1
	if !want.ok {
		expect(t, append(l, exit), w, vm.Result{At: n, Steps: stepsOf(before), Err: api.EFAULT}, x)
		return
	}
	asNumber := program(l, one(move(0, x.Dst), exit))
	asPlace := program(l, one(load(1, 0, x.Dst, 0), exit))
	steps := stepsOf(before) + 3
	switch {
	case isMap:
		expect(t, asNumber, w, vm.Result{At: n + 2, Steps: steps - 1, Err: api.EFAULT}, x, "a map is no number")
		expect(t, asPlace, w, vm.Result{At: n + 1, Steps: steps - 2, Err: api.EFAULT}, x, "a map is no place")
		asMap := program(l, one(move(1, x.Dst), move(2, 10), addTo(2, -64), call(1), load(1, 0, 0, 2), exit))
		expect(t, asMap, w, vm.Result{Value: ofCell + 2, At: n + 6, Steps: steps + 4}, x, "a map")
	case want.isPlace:
		expect(t, asPlace, w, vm.Result{Value: want.n, At: n + 2, Steps: steps}, x, "a place")
		expect(t, asNumber, w, vm.Result{At: n + 2, Steps: steps - 1, Err: api.EFAULT}, x, "no number")
	default:
		expect(t, asNumber, w, vm.Result{Value: want.n, At: n + 2, Steps: steps}, x, "a number")
	}
}

// stepsOf counts instructions that are gone through one by one.
func stepsOf(l []api.Insn) int {
	n := len(l)
	for _, x := range l {
		if x.Op == 0x18 {
			n--
		}
	}
	return n
}

// P20.1: each ALU operation, long or not, of a register or a number, of values of all kinds.
func TestALUOfAllKinds(t *testing.T) {
	w := world(t)
	for op := range 256 {
		p := insn.Of(uint8(op))
		if p.Kind != insn.ALU {
			continue
		}
		for a := range kinds {
			for b := range kinds {
				if !p.Reg && b != number {
					continue
				}
				const x, y = 2, 3
				// What is put into is register 0, or one that has nothing; the other one has the other number.
				before := program(ready(y), one(movTo(3, x)))
				dst := uint8(0)
				switch a {
				case nothing:
					dst = with[nothing]
				case number:
					before = append(before, move(0, 3))
				default:
					before = append(before, move(0, with[a]))
				}
				i := api.Insn{Op: uint8(op), Dst: dst}
				if p.Reg {
					i.Src = with[b]
				} else {
					i.Imm = y
				}
				see(t, w, before, i, made(p.Op, p.Long, a, b, x, y), p.Op == 11 && b == aMap)
			}
		}
	}
}

var edges = []uint64{0, 1, 2, 31, 32, 33, 63, 64, 1<<31 - 1, 1 << 31, 1<<32 - 1, 1 << 32, 1<<63 - 1, 1 << 63, math.MaxUint64 - 7, math.MaxUint64, 0x8070605040302010}

var immediates = []int32{0, 1, 31, 63, 64, -1, -8, math.MaxInt32, math.MinInt32}

// P20.1: ALU operations of numbers are scalar.Eval's; a number of the instruction has its sign.
func TestALUOfNumbers(t *testing.T) {
	for op := range 256 {
		p := insn.Of(uint8(op))
		if p.Kind != insn.ALU {
			continue
		}
		for _, x := range edges {
			for _, y := range edges {
				l := program(wide(0, x), wide(9, y), one(api.Insn{Op: uint8(op), Src: 9}, exit))
				if p.Reg {
					expect(t, l, vm.World{Fuel: 9}, vm.Result{Value: scalar.Eval(p.Op, p.Long, x, y), At: 5, Steps: 4}, op, x, y)
				}
			}
			for _, imm := range immediates {
				l := program(wide(0, x), one(api.Insn{Op: uint8(op), Imm: imm}, exit))
				if !p.Reg {
					expect(t, l, vm.World{Fuel: 9}, vm.Result{Value: scalar.Eval(p.Op, p.Long, x, uint64(int64(imm))), At: 3, Steps: 3}, op, x, imm)
				}
			}
		}
	}
}

// P20.1: places may be moved out of what is there, and back, all the way round.
func TestFarPlaces(t *testing.T) {
	w := world(t)
	for _, far := range edges {
		l := program(ready(far), one(
			api.Insn{Op: 0x0f, Dst: 6, Src: 2}, api.Insn{Op: 0x1f, Dst: 7, Src: 2}, api.Insn{Op: 0x0f, Dst: 2, Src: 8},
			move(3, 2)), wide(2, far), one(
			api.Insn{Op: 0x1f, Dst: 6, Src: 2}, api.Insn{Op: 0x0f, Dst: 7, Src: 2}, api.Insn{Op: 0x1f, Dst: 3, Src: 2},
			load(1, 0, 6, 0), load(1, 7, 7, 0), load(1, 3, 3, 0),
			api.Insn{Op: 0x67, Dst: 0, Imm: 8}, api.Insn{Op: 0x4f, Dst: 0, Src: 7}, api.Insn{Op: 0x67, Dst: 0, Imm: 8}, api.Insn{Op: 0x4f, Dst: 0, Src: 3},
			exit))
		expect(t, l, w, vm.Result{Value: (ofCtx+4)<<16 | (ofStack+44)<<8 | ofCell + 3, At: len(l) - 1, Steps: stepsOf(l)}, far)
	}
}

// P20.1: each comparison, long or not, of a register or a number, of values of all kinds.
func TestJumpsOfAllKinds(t *testing.T) {
	w := world(t)
	for op := range 256 {
		p := insn.Of(uint8(op))
		if p.Kind != insn.Jump {
			continue
		}
		for a := range kinds {
			for b := range kinds {
				for _, imm := range []int32{0, 1, -1} {
					if p.Reg && imm != 0 || !p.Reg && b != number {
						continue
					}
					x := api.Insn{Op: uint8(op), Dst: with[a], Off: 2, Imm: imm}
					y := uint64(int64(imm))
					// A register's number is nought: so is what places are compared with elsewhere.
					before := ready(0)
					if p.Reg {
						x.Src = with[b]
						y = 0
					}
					ok := a == number && (b == number || !p.Reg)
					holds := ok && branch.Holds(p.Op, p.Long, 0, y)
					if a != nothing && a != number && p.Long && !p.Reg && imm == 0 && (p.Op == 1 || p.Op == 5) {
						ok, holds = true, p.Op == 5
					}
					l := program(before, one(x, movTo(0, 1), exit, movTo(0, 2), exit))
					n, steps := len(before), stepsOf(before)
					want := vm.Result{At: n, Steps: steps, Err: api.EFAULT}
					if ok && holds {
						want = vm.Result{Value: 2, At: n + 4, Steps: steps + 3}
					} else if ok {
						want = vm.Result{Value: 1, At: n + 2, Steps: steps + 3}
					}
					expect(t, l, w, want, op, a, b, imm)
				}
			}
		}
	}
}

// P20.1: comparisons of numbers are branch.Holds'; a number of the instruction has its sign.
func TestJumpsOfNumbers(t *testing.T) {
	for op := range 256 {
		p := insn.Of(uint8(op))
		if p.Kind != insn.Jump {
			continue
		}
		for _, x := range edges {
			check := func(y uint64, jump api.Insn) {
				t.Helper()
				l := program(wide(3, x), wide(9, y), one(movTo(0, 1), jump, movTo(0, 2), exit))
				want := vm.Result{Value: 2, At: 7, Steps: 6}
				if branch.Holds(p.Op, p.Long, x, y) {
					want = vm.Result{Value: 1, At: 7, Steps: 5}
				}
				expect(t, l, vm.World{Fuel: 9}, want, jump, x, y)
			}
			for _, y := range edges {
				if p.Reg {
					check(y, api.Insn{Op: uint8(op), Dst: 3, Src: 9, Off: 1})
				}
			}
			for _, imm := range immediates {
				if !p.Reg {
					check(uint64(int64(imm)), api.Insn{Op: uint8(op), Dst: 3, Imm: imm, Off: 1})
				}
			}
		}
	}
}

// P20.1: jumps go where shape.Target says, back too.
func TestWhereJumpsGo(t *testing.T) {
	l := one(movTo(0, 3), always(2), movTo(0, 5), exit, addTo(0, -1), api.Insn{Op: 0x55, Imm: 1, Off: -2}, always(-5))
	expect(t, l, vm.World{Fuel: 99}, vm.Result{Value: 5, At: 3, Steps: 9})
}

// P20.1: Exit tells register 0's number, and nothing else.
func TestExit(t *testing.T) {
	w := world(t)
	for kind := range kinds {
		before := ready(77)
		if kind == nothing {
			expect(t, one(exit), w, vm.Result{Err: api.EFAULT}, "nothing")
			continue
		}
		l := program(before, one(move(0, with[kind]), exit))
		want := vm.Result{At: len(l) - 1, Steps: stepsOf(l) - 1, Err: api.EFAULT}
		if kind == number {
			want = vm.Result{Value: 77, At: len(l) - 1, Steps: stepsOf(l)}
		}
		expect(t, l, w, want, kind)
	}
}

// P20.1: at the start register 1 is place 0 of the context, 10 place 0 of the stack, and the others are nothing.
func TestStart(t *testing.T) {
	w := world(t)
	expect(t, one(load(1, 0, 1, 0), exit), w, vm.Result{Value: ofCtx, At: 1, Steps: 2}, "ctx")
	expect(t, one(load(1, 0, 1, -1), exit), w, vm.Result{Err: api.EFAULT}, "ctx -1")
	expect(t, one(store(1, 10, -64, 3), load(1, 0, 10, -64), exit), w, vm.Result{Value: 3, At: 2, Steps: 3}, "stack")
	expect(t, one(store(1, 10, -65, 3), exit), w, vm.Result{Err: api.EFAULT}, "stack -65")
	expect(t, one(store(1, 10, 0, 3), exit), w, vm.Result{Err: api.EFAULT}, "stack 0")
	for _, r := range []uint8{0, 2, 3, 4, 5, 6, 7, 8, 9} {
		expect(t, one(move(0, r), exit), w, vm.Result{Err: api.EFAULT}, r)
	}
}

// P20.1: loads and stores of all sizes, of all kinds of places and of others.
func TestLoadAndStore(t *testing.T) {
	w := world(t)
	bytesOf := func(kind int, off, size int) uint64 {
		p := places[kind]
		var n uint64
		for i := range size {
			n |= uint64(p.first+p.at+off+i) << (8 * i)
		}
		return n
	}
	for kind := range kinds {
		p, isPlace := places[kind]
		for _, size := range []int{1, 2, 4, 8} {
			for off := -80; off < 80; off++ {
				before := ready(0x1122334455667788)
				n, steps := len(before), stepsOf(before)
				inside := isPlace && p.at+off >= 0 && p.at+off+size <= p.count
				want := vm.Result{At: n, Steps: steps, Err: api.EFAULT}
				if inside {
					want = vm.Result{Value: bytesOf(kind, off, size), At: n + 1, Steps: steps + 2}
				}
				expect(t, program(before, one(load(size, 0, with[kind], int16(off)), exit)), w, want, kind, size, off)
				writable := inside && kind != ofContext
				for _, x := range []struct {
					store api.Insn
					n     uint64
				}{
					{store(size, with[kind], int16(off), -3), math.MaxUint64 - 2},
					{storeOf(size, with[kind], int16(off), with[number]), 0x1122334455667788},
				} {
					w := world(t)
					want := vm.Result{At: n, Steps: steps, Err: api.EFAULT}
					if writable {
						want = vm.Result{Value: x.n & (math.MaxUint64 >> (64 - 8*size)), At: n + 2, Steps: steps + 3}
					}
					expect(t, program(before, one(x.store, load(size, 0, with[kind], int16(off)), exit)), w, want, kind, size, off)
				}
			}
		}
	}
}

// P20.1: values of all kinds are stored in a word of the stack, and loaded as they were; elsewhere numbers alone.
func TestStoreOfAllKinds(t *testing.T) {
	w := world(t)
	for kind := range kinds {
		before := ready(77)
		n, steps := len(before), stepsOf(before)
		for _, size := range []int{1, 2, 4, 8} {
			for _, off := range []int16{-8, -16, -12, -56} {
				want := outcome{ok: kind != nothing && (kind == number || size == 8 && off%8 == 0)}
				if !want.ok {
					expect(t, program(before, one(storeOf(size, 10, off, with[kind]), exit)), w, vm.Result{At: n, Steps: steps, Err: api.EFAULT}, kind, size, off)
					continue
				}
				want.n = 77
				if _, want.isPlace = places[kind]; want.isPlace {
					want = placeOf(kind, 0)
				}
				see(t, w, program(before, one(storeOf(size, 10, off, with[kind]))), load(size, 3, 10, off), want, kind == aMap)
			}
			want := vm.Result{At: n, Steps: steps, Err: api.EFAULT}
			if kind == number {
				want = vm.Result{At: n + 1, Steps: steps + 2}
			}
			expect(t, program(before, one(storeOf(size, 8, 1, with[kind]), exit)), world(t), want, kind, size, "cell")
		}
	}
}

// P20.1: atomic operations, of both sizes, of all numbers that Imm may be; of numbers alone.
func TestAtomic(t *testing.T) {
	ops := map[int32]func(x, y uint64) uint64{
		0: func(x, y uint64) uint64 { return x + y }, 64: func(x, y uint64) uint64 { return x | y },
		80: func(x, y uint64) uint64 { return x & y }, 160: func(x, y uint64) uint64 { return x ^ y },
	}
	for _, size := range []int{4, 8} {
		op := uint8(0xc3) | sizeBits(size)
		for imm := int32(-2); imm < 300; imm++ {
			for _, by := range []uint64{1, 0xFF00FF00FF00FF00, math.MaxUint64, 0x1_00000000} {
				do, known := ops[imm]
				const old = 0x8899AABBFCFDFEFF
				l := program(wide(3, old), wide(4, by), one(storeOf(8, 10, -8, 3), api.Insn{Op: op, Dst: 10, Src: 4, Off: -8, Imm: imm}, load(8, 0, 10, -8), exit))
				want := vm.Result{At: 5, Steps: 3, Err: api.EFAULT}
				if known {
					mask := uint64(math.MaxUint64) >> (64 - 8*size)
					want = vm.Result{Value: old&^mask | do(old, by)&mask, At: 7, Steps: 6}
				}
				expect(t, l, vm.World{Fuel: 9}, want, size, imm, by)
			}
		}
		for _, imm := range []int32{math.MinInt32, math.MaxInt32, 1 << 8, 64 + 1<<16} {
			expect(t, one(store(8, 10, -8, 1), movTo(4, 1), api.Insn{Op: op, Dst: 10, Src: 4, Off: -8, Imm: imm}), vm.World{Fuel: 9}, vm.Result{At: 2, Steps: 2, Err: api.EFAULT}, imm)
		}
		for base := range kinds {
			for kind := range kinds {
				w := world(t)
				before := ready(1)
				n, steps := len(before), stepsOf(before)
				want := vm.Result{At: n, Steps: steps, Err: api.EFAULT}
				if (base == ofTheStack || base == ofACell) && kind == number {
					p := places[base]
					want = vm.Result{Value: uint64(p.first + p.at + 1), At: n + 2, Steps: steps + 3}
				}
				l := program(before, one(api.Insn{Op: op, Dst: with[base], Src: with[kind]}, load(1, 0, with[base], 0), exit))
				expect(t, l, w, want, size, base, kind)
			}
		}
		// What isn't written can't be loaded, nor can a place be reckoned with.
		expect(t, one(movTo(4, 1), api.Insn{Op: op, Dst: 10, Src: 4, Off: -8}), vm.World{Fuel: 9}, vm.Result{At: 1, Steps: 1, Err: api.EFAULT}, "not written")
		expect(t, one(movTo(4, 1), storeOf(8, 10, -8, 1), api.Insn{Op: op, Dst: 10, Src: 4, Off: -8}), vm.World{Fuel: 9}, vm.Result{At: 2, Steps: 2, Err: api.EFAULT}, "a place")
	}
}

// P20.1: a Wide's number and map, its Second, and where it isn't one.
func TestWide(t *testing.T) {
	w := world(t)
	w.Maps = append(w.Maps, nil, w.Maps[0])
	for _, x := range edges {
		expect(t, append(wide(0, x), exit), w, vm.Result{Value: x, At: 2, Steps: 2}, x)
	}
	for _, slot := range []int32{0, 1, 2, 3, 4, -1, math.MinInt32, math.MaxInt32} {
		want := vm.Result{Err: api.EFAULT}
		if slot == 0 || slot == 2 {
			want = vm.Result{Value: 1, At: 4, Steps: 4}
		}
		expect(t, program(wideMap(9, slot), one(movTo(0, 1), api.Insn{Op: 0x15, Dst: 9, Off: -5}, exit)), w, want, slot)
	}
	for src := uint8(2); src < 12; src++ {
		expect(t, one(api.Insn{Op: 0x18, Src: src}, api.Insn{}, movTo(0, 1), exit), w, vm.Result{Err: api.EFAULT}, src)
	}
	for src := range uint8(2) {
		expect(t, one(api.Insn{Op: 0x18, Src: src}), w, vm.Result{Err: api.EFAULT}, "no second")
		expect(t, one(api.Insn{Op: 0x18, Src: src}, movTo(0, 1), exit), w, vm.Result{Err: api.EFAULT}, "another kind")
	}
	expect(t, one(api.Insn{Op: 0x18, Dst: 9, Src: 1}, api.Insn{Imm: 3}, movTo(0, 1), exit), w, vm.Result{Value: 1, At: 3, Steps: 3}, "a second with a number")
}

// P20.1, P20.2: programs by chance, of any instructions, end within their fuel, and tell no value beside an error.
func TestProgramsByChance(t *testing.T) {
	chance := rand.New(rand.NewPCG(20, 1))
	known := []uint8{0xb7, 0xbf, 0x07, 0x0f, 0x18, 0x85, 0x95, 0x05, 0x15, 0x1d, 0x55, 0x79, 0x71, 0x7a, 0x7b, 0x62, 0xdb, 0xc3, 0x00}
	ends := map[api.Errno]int{}
	for range 30000 {
		l := make([]api.Insn, 1+chance.IntN(20))
		for i := range min(chance.IntN(12), len(l)) {
			l[i] = movTo(uint8(i), int32(chance.IntN(4)))
		}
		for i := range l {
			if l[i].Op != 0 && chance.IntN(8) > 0 {
				continue
			}
			l[i] = api.Insn{Op: known[chance.IntN(len(known))], Dst: uint8(chance.IntN(11)), Src: uint8(chance.IntN(11)), Off: int16(chance.IntN(16) - 12), Imm: int32(chance.IntN(5))}
			if chance.IntN(20) == 0 {
				l[i] = api.Insn{Op: uint8(chance.Uint32()), Dst: uint8(chance.Uint32()), Src: uint8(chance.Uint32()), Off: int16(chance.Uint32()), Imm: int32(chance.Uint32())}
			}
		}
		w := world(t)
		w.Fuel = chance.IntN(100)
		got := vm.Run(l, w)
		ends[got.Err]++
		switch got.Err {
		case api.OK:
			if got.Steps < 1 || got.Steps > w.Fuel || l[got.At].Op != 0x95 {
				t.Fatal(l, got)
			}
		case api.ETIME:
			if got.Steps != w.Fuel || got.Value != 0 {
				t.Fatal(l, got)
			}
		case api.EFAULT:
			if got.Steps >= w.Fuel || got.Value != 0 {
				t.Fatal(l, got)
			}
		default:
			t.Fatal(got)
		}
	}
	if ends[api.OK] < 100 || ends[api.ETIME] < 100 || ends[api.EFAULT] < 100 {
		t.Error(ends)
	}
}

// P20.3: what is handed in stays, its spare room too, and isn't kept.
func TestArgumentsStay(t *testing.T) {
	w := world(t)
	random := []uint64{5, 6, 7, 8}
	maps := []*bmap.Map{w.Maps[0], nil, w.Maps[0]}
	w.Random, w.Maps, w.Clock = random[:2], maps[:1], 9
	l := one(store(4, 10, -4, 1), call(7), call(7), call(7), call(5), exit, exit)
	as := slices.Clone(l)
	for range 2 {
		expect(t, l[:6], w, vm.Result{Value: 9, At: 5, Steps: 6})
	}
	if !slices.Equal(l, as) || !slices.Equal(random, []uint64{5, 6, 7, 8}) || maps[0] == nil || maps[1] != nil || maps[2] != maps[0] {
		t.Error(l, random, maps)
	}
}
