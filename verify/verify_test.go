package verify_test

import (
	"math"
	"slices"
	"testing"

	"tipstaff/api"
	"tipstaff/bmap"
	"tipstaff/cfg"
	"tipstaff/verify"
)

var exit = api.Insn{Op: 0x95}

func movTo(dst uint8, imm int32) api.Insn { return api.Insn{Op: 0xb7, Dst: dst, Imm: imm} }

func move(dst, src uint8) api.Insn { return api.Insn{Op: 0xbf, Dst: dst, Src: src} }

func addTo(dst uint8, imm int32) api.Insn { return api.Insn{Op: 0x07, Dst: dst, Imm: imm} }

func subFrom(dst uint8, imm int32) api.Insn { return api.Insn{Op: 0x17, Dst: dst, Imm: imm} }

func addOf(dst, src uint8) api.Insn { return api.Insn{Op: 0x0f, Dst: dst, Src: src} }

func subOf(dst, src uint8) api.Insn { return api.Insn{Op: 0x1f, Dst: dst, Src: src} }

func andTo(dst uint8, imm int32) api.Insn { return api.Insn{Op: 0x57, Dst: dst, Imm: imm} }

func call(helper int32) api.Insn { return api.Insn{Op: 0x85, Imm: helper} }

func always(off int16) api.Insn { return api.Insn{Op: 0x05, Off: off} }

func jeq(dst uint8, imm int32, off int16) api.Insn {
	return api.Insn{Op: 0x15, Dst: dst, Imm: imm, Off: off}
}

func jne(dst uint8, imm int32, off int16) api.Insn {
	return api.Insn{Op: 0x55, Dst: dst, Imm: imm, Off: off}
}

func jgt(dst uint8, imm int32, off int16) api.Insn {
	return api.Insn{Op: 0x25, Dst: dst, Imm: imm, Off: off}
}

// sizeBits are those of an operation's byte that tell how many bytes.
func sizeBits(size int) uint8 {
	return map[int]uint8{1: 0x10, 2: 0x08, 4: 0x00, 8: 0x18}[size]
}

func load(size int, dst, src uint8, off int16) api.Insn {
	return api.Insn{Op: 0x61 | sizeBits(size), Dst: dst, Src: src, Off: off}
}

func store(size int, dst uint8, off int16, imm int32) api.Insn {
	return api.Insn{Op: 0x62 | sizeBits(size), Dst: dst, Off: off, Imm: imm}
}

func storeOf(size int, dst uint8, off int16, src uint8) api.Insn {
	return api.Insn{Op: 0x63 | sizeBits(size), Dst: dst, Off: off, Src: src}
}

func atomic(size int, dst uint8, off int16, src uint8) api.Insn {
	return api.Insn{Op: 0xc3 | sizeBits(size), Dst: dst, Off: off, Src: src}
}

func wide(dst uint8, x uint64) []api.Insn {
	return []api.Insn{{Op: 0x18, Dst: dst, Imm: int32(uint32(x))}, {Imm: int32(uint32(x >> 32))}}
}

func wideMap(dst uint8, slot int32) []api.Insn {
	return []api.Insn{{Op: 0x18, Dst: dst, Src: 1, Imm: slot}, {}}
}

func one(l ...api.Insn) []api.Insn { return l }

func program(parts ...[]api.Insn) []api.Insn { return slices.Concat(parts...) }

// end is how a program comes to its end, whatever register 0 has.
var end = one(movTo(0, 0), exit)

// at puts a place of the stack into a register.
func at(reg uint8, place int32) []api.Insn { return one(move(reg, 10), addTo(reg, place)) }

// specs are of four slots: an Array of 16 bytes, a Hash of 8, a Queue of 6, a Prefix of 4.
var specs = []bmap.Spec{
	{Type: api.Array, Key: 4, Value: 16, Entries: 2},
	{Type: api.Hash, Key: 8, Value: 8, Entries: 2},
	{Type: api.Queue, Value: 6, Entries: 2},
	{Type: api.Prefix, Key: 6, Value: 4, Entries: 2},
}

// find looks up a key of noughts in a slot's map: register 0 may have a cell then.
func find(slot int32) []api.Insn {
	return program(one(store(8, 10, -8, 0)), wideMap(1, slot), at(2, -8), one(call(1)))
}

// found has a cell in register 0, as find, and goes to its end, if there is none.
func found(slot int32) []api.Insn { return program(find(slot), one(jne(0, 0, 1), exit)) }

// expect holds what Check tells against what is wanted, with privilege and without.
func expect(t *testing.T, name string, l []api.Insn, e verify.Env, at int, err api.Errno) {
	t.Helper()
	for _, privileged := range []bool{false, true} {
		e.Privileged = privileged
		if r, got := verify.Check(l, e); r.At != at || got != err {
			t.Errorf("%s, %t: %d at %d, not %d at %d", name, privileged, got, r.At, err, at)
		}
	}
}

// one program, or the beginning of one, that is accepted, or not at its last instruction but some.
type example struct {
	name string
	l    []api.Insn
	// from its end on, how many instructions further ahead is the one that isn't accepted? -1: all are.
	back int
}

const allRight = -1

func (x example) check(t *testing.T, e verify.Env) {
	t.Helper()
	l := program(x.l, end)
	if x.back == allRight {
		expect(t, x.name, l, e, 0, api.OK)
	} else {
		expect(t, x.name, l, e, len(x.l)-1-x.back, api.EACCES)
	}
}

func checkAll(t *testing.T, e verify.Env, all []example) {
	t.Helper()
	for _, x := range all {
		x.check(t, e)
	}
}

// P18.1: the examples.
func TestExamples(t *testing.T) {
	expect(t, "mov and exit", end, verify.Env{}, 0, api.OK)
	expect(t, "exit alone", one(exit), verify.Env{}, 0, api.EACCES)
	checkAll(t, verify.Env{Specs: specs}, []example{{"a Maybe that is loaded from", program(find(0), one(load(1, 3, 0, 0))), 0}})
}

// P18.1: faults of form, and ones that layer 16 finds, at their places, without a step; then Specs.
func TestInvalid(t *testing.T) {
	wrong := []bmap.Spec{specs[0], {Type: api.Array, Key: 4, Value: 65, Entries: 1}}
	loop := one(movTo(0, 0), movTo(0, 1), always(-2))
	long := append(slices.Repeat(one(movTo(0, 1)), api.MaxInsns), exit)
	for _, x := range []struct {
		name       string
		l          []api.Insn
		specs      []bmap.Spec
		privileged bool
		at         int
		err        api.Errno
	}{
		{"nothing", nil, nil, false, 0, api.EINVAL},
		{"not in form", one(movTo(0, 0), api.Insn{Op: 0xff}, exit), nil, true, 1, api.EINVAL},
		{"no such helper", one(movTo(0, 0), movTo(0, 0), call(4), exit), nil, true, 2, api.EINVAL},
		{"not come to", one(movTo(0, 0), exit, exit), nil, true, 2, api.EINVAL},
		{"a loop", loop, nil, false, 0, api.EINVAL},
		{"a loop with privilege", loop, nil, true, 0, api.OK},
		{"too long", long, nil, true, 0, api.E2BIG},
		{"as long as may be", long[1:], nil, false, 0, api.OK},
		{"a wrong Spec", end, wrong, false, 0, api.EINVAL},
		{"a wrong Spec, with privilege", end, wrong, true, 0, api.EINVAL},
		{"a wrong Spec, and a step that can't be done", one(exit), wrong, true, 0, api.EINVAL},
		{"a Spec of nothing", end, []bmap.Spec{{}}, false, 0, api.EINVAL},
		{"form goes ahead of Specs", one(movTo(0, 0), exit, exit), wrong, false, 2, api.EINVAL},
		{"a wrong Spec of a slot that can't be named", end, append(slices.Clone(specs), bmap.Spec{Type: 6}), false, 0, api.EINVAL},
		{"more Specs than slots", end, append(slices.Clone(specs), specs...), false, 0, api.OK},
	} {
		r, err := verify.Check(x.l, verify.Env{Specs: x.specs, Privileged: x.privileged})
		if r.At != x.at || err != x.err || err != api.OK && r.Steps != 0 {
			t.Errorf("%s: %+v, %d", x.name, r, err)
		}
		if at, want := cfg.Check(x.l, x.privileged); want != api.OK && (at != r.At || want != err) {
			t.Errorf("%s: %+v, %d, not %d, %d", x.name, r, err, at, want)
		}
	}
}

// P18.1: how many steps there were, on all ways together.
func TestSteps(t *testing.T) {
	unknown := load(8, 6, 1, 0)
	for _, x := range []struct {
		name  string
		l     []api.Insn
		steps int
		at    int
		err   api.Errno
	}{
		{"mov and exit", end, 2, 0, api.OK},
		{"exit", one(exit), 0, 0, api.EACCES},
		{"a wide is one", append(wide(0, 3), exit), 2, 0, api.OK},
		{"two ways", one(unknown, movTo(0, 1), jeq(6, 0, 1), movTo(0, 2), exit), 6, 0, api.OK},
		{"one way, as the number is known", one(movTo(6, 4), movTo(0, 1), jeq(6, 0, 1), movTo(0, 2), exit), 5, 0, api.OK},
		{"the other way", one(movTo(6, 0), movTo(0, 1), jeq(6, 0, 1), movTo(0, 2), exit), 4, 0, api.OK},
		{"a way that the other one covers", one(unknown, movTo(0, 1), jeq(6, 0, 1), movTo(6, 0), movTo(6, 0), exit), 6, 0, api.OK},
		{"a way that waits, and that the other one covers", one(unknown, movTo(0, 1), jeq(6, 0, 1), unknown, exit), 5, 0, api.OK},
		{"none", one(movTo(0, 0), load(1, 0, 1, 32), exit), 1, 1, api.EACCES},
	} {
		for _, privileged := range []bool{false, true} {
			if r, err := verify.Check(x.l, verify.Env{Privileged: privileged}); r != (verify.Report{At: x.at, Steps: x.steps}) || err != x.err {
				t.Errorf("%s: %+v, %d", x.name, r, err)
			}
		}
	}
}

// threeWays has three states at its end, that don't cover each other, behind 5 steps.
var threeWays = one(call(7), move(6, 0), jeq(6, 0, 0), jgt(6, 5, 0))

// P18.1: 512 steps without privilege, and not one more.
func TestMostSteps(t *testing.T) {
	movs := func(n int) []api.Insn { return slices.Repeat(one(movTo(0, 1)), n) }
	for _, x := range []struct {
		movs, more int
		at, steps  int
		err        api.Errno
	}{
		{168, 0, 0, 512, api.OK},
		{167, 0, 0, 509, api.OK},
		// The way to its end has one more there.
		{168, 1, 4 + 1 + 168, 512, api.E2BIG},
		{169, 0, 4 + 169, 512, api.E2BIG},
		{240, 0, 4 + 169, 512, api.E2BIG},
	} {
		l := program(movs(x.more), threeWays, movs(x.movs), one(exit))
		r, err := verify.Check(l, verify.Env{})
		if r != (verify.Report{At: x.at, Steps: x.steps}) || err != x.err {
			t.Errorf("%+v: %+v, %d", x, r, err)
		}
		r, err = verify.Check(l, verify.Env{Privileged: true})
		if r != (verify.Report{Steps: 5 + x.more + 3*(x.movs+1)}) || err != api.OK {
			t.Errorf("%+v with privilege: %+v, %d", x, r, err)
		}
	}
}

// counted is a loop that is gone n times: of 2 n and 2 steps.
func counted(n int32) []api.Insn { return one(movTo(0, 0), addTo(0, 1), jne(0, n, -2), exit) }

// P18.1: 2048 steps with privilege, and not one more.
func TestMostStepsWithPrivilege(t *testing.T) {
	for _, x := range []struct {
		name string
		l    []api.Insn
		want verify.Report
		err  api.Errno
	}{
		{"few", counted(10), verify.Report{Steps: 22}, api.OK},
		{"most", counted(1023), verify.Report{Steps: 2048}, api.OK},
		{"one more", program(one(movTo(1, 0)), counted(1023)), verify.Report{At: 4, Steps: 2048}, api.E2BIG},
		{"two more", counted(1024), verify.Report{At: 2, Steps: 2048}, api.E2BIG},
		{"many", counted(-1), verify.Report{At: 2, Steps: 2048}, api.E2BIG},
		{"without an end", one(movTo(0, 0), addTo(0, 1), always(-2)), verify.Report{At: 2, Steps: 2048}, api.E2BIG},
	} {
		if r, err := verify.Check(x.l, verify.Env{Privileged: true}); r != x.want || err != x.err {
			t.Errorf("%s: %+v, %d", x.name, r, err)
		}
		if r, err := verify.Check(x.l, verify.Env{}); r != (verify.Report{}) || err != api.EINVAL {
			t.Errorf("%s, without privilege: %+v, %d", x.name, r, err)
		}
	}
}

// P18.1: a state that one covers which was gone on with from the same place isn't gone on with: so loops come to an end.
func TestLoopsThatAreCovered(t *testing.T) {
	for _, x := range []struct {
		name string
		l    []api.Insn
		most int
	}{
		{"itself", one(always(-1)), 1},
		{"nothing changes", one(movTo(0, 0), movTo(1, 1), always(-2)), 4},
		{"till chance has it", one(call(7), jne(0, 3, -2), exit), 6},
		{"a lookup each time", program(find(1), one(movTo(0, 0), jeq(0, 0, -8), exit)), 20},
		{"a cell each time", program(found(1), one(load(8, 6, 0, 0), jne(6, 7, -10), movTo(0, 0), exit)), 40},
		{"a number of one byte that grows", one(movTo(0, 0), movTo(6, 0), addTo(6, 1), andTo(6, 3), always(-3)), 20},
	} {
		if r, err := verify.Check(x.l, verify.Env{Specs: specs, Privileged: true}); err != api.OK || r.Steps > x.most || r.At != 0 {
			t.Errorf("%s: %+v, %d", x.name, r, err)
		}
	}
}

// P18.1: Exit needs register 0's number.
func TestExit(t *testing.T) {
	e := verify.Env{Specs: specs}
	expect(t, "context", one(move(0, 1), exit), e, 1, api.EACCES)
	expect(t, "stack", one(move(0, 10), exit), e, 1, api.EACCES)
	expect(t, "map", append(wideMap(0, 1), exit), e, 2, api.EACCES)
	expect(t, "maybe", append(find(1), exit), e, 6, api.EACCES)
	expect(t, "cell", program(find(1), one(jeq(0, 0, 1), exit, exit)), e, 7, api.EACCES)
	expect(t, "nought of a lookup", program(find(1), one(jeq(0, 0, 2), movTo(0, 3), exit, exit)), e, 0, api.OK)
	expect(t, "a number that is loaded", one(load(8, 0, 1, 0), exit), e, 0, api.OK)
	expect(t, "on one way nothing", one(load(8, 6, 1, 0), jeq(6, 0, 1), movTo(0, 3), exit), e, 3, api.EACCES)
}

// P18.1: loads and stores of all sizes at each place of the context, of the stack and of cells.
func TestEachPlace(t *testing.T) {
	e := verify.Env{Specs: specs}
	for _, size := range []int{1, 2, 4, 8} {
		for off := int16(-80); off < 80; off++ {
			n := off + int16(size)
			back := func(ok bool) int {
				if ok {
					return allRight
				}
				return 0
			}
			checkAll(t, e, []example{
				{"load of the context", one(load(size, 3, 1, off)), back(off >= 0 && n <= 32)},
				{"load of the context that is moved", one(addTo(1, 7), load(size, 3, 1, off-7)), back(off >= 0 && n <= 32)},
				{"store of the context", one(store(size, 1, off, 0)), 0},
				{"load of the stack", one(store(8, 10, -24, 0), load(size, 3, 10, off)), back(off >= -24 && n <= -16)},
				{"load of the stack that is moved", one(store(8, 10, -24, 0), move(4, 10), subFrom(4, 30), load(size, 3, 4, off+30)), back(off >= -24 && n <= -16)},
				{"store of the stack", one(store(size, 10, off, 0)), back(off >= -64 && n <= 0)},
				{"load of a cell", program(found(0), one(load(size, 3, 0, off))), back(off >= 0 && n <= 16)},
				{"load of another one", program(found(3), one(load(size, 3, 0, off))), back(off >= 0 && n <= 4)},
				{"store of a cell", program(found(0), one(store(size, 0, off, 0))), back(off >= 0 && n <= 16)},
				{"load of a cell that is moved", program(found(0), one(addTo(0, 11), load(size, 3, 0, off-11))), back(off >= 0 && n <= 16)},
				{"store of a cell that is moved back", program(found(0), one(addTo(0, 40), subFrom(0, 60), store(size, 0, off+20, 0))), back(off >= 0 && n <= 16)},
			})
		}
	}
	for _, off := range []int16{math.MinInt16, math.MaxInt16} {
		checkAll(t, e, []example{
			{"far in the context", one(load(1, 3, 1, off)), 0},
			{"far in the stack", one(store(1, 10, off, 0)), 0},
			{"far in a cell", program(found(0), one(load(1, 3, 0, off))), 0},
		})
	}
}

// P18.1: what is no place can't be loaded from, or stored to; nothing can't be stored.
func TestNoPlace(t *testing.T) {
	e := verify.Env{Specs: specs}
	for _, x := range []example{
		{"a number", one(movTo(6, 0)), allRight},
		{"a number that is far", one(movTo(6, -8)), allRight},
		{"nothing", one(movTo(2, 0)), allRight},
		{"a map", wideMap(6, 0), allRight},
		{"maybe a cell", program(find(0), one(move(6, 0))), allRight},
		{"a cell that was found to be nought", program(find(0), one(move(6, 0), jeq(0, 0, 2), movTo(0, 0), exit)), allRight},
	} {
		x.check(t, e)
		for _, last := range []api.Insn{load(1, 3, 6, 0), load(8, 3, 6, 0), store(1, 6, 0, 1), storeOf(8, 6, 0, 10), atomic(8, 6, 0, 10)} {
			example{x.name, program(x.l, one(last)), 0}.check(t, e)
		}
	}
	checkAll(t, e, []example{
		{"nothing, on the stack", one(storeOf(8, 10, -8, 6)), 0},
		{"nothing, in a cell", program(found(0), one(storeOf(8, 0, 0, 6))), 0},
	})
}

// P18.1: a frozen map's cells are read alone; beyond Frozen's end no map is frozen.
func TestFrozen(t *testing.T) {
	for _, x := range []struct {
		frozen []bool
		slot   int32
		back   int
	}{
		{nil, 1, allRight}, {[]bool{}, 0, allRight}, {[]bool{true}, 1, allRight}, {[]bool{true, false}, 1, allRight},
		{[]bool{false, true, false}, 0, allRight}, {[]bool{false, false, false, false, true, true}, 0, allRight},
		{[]bool{true}, 0, 0}, {[]bool{false, true}, 1, 0}, {[]bool{true, true, true, true, true}, 3, 0},
	} {
		e := verify.Env{Specs: specs, Frozen: x.frozen}
		checkAll(t, e, []example{
			{"load", program(found(x.slot), one(load(4, 3, 0, 0))), allRight},
			{"store", program(found(x.slot), one(store(4, 0, 0, 1))), x.back},
			{"store of a register", program(found(x.slot), one(movTo(3, 1), storeOf(4, 0, 0, 3))), x.back},
			{"atomic", program(found(x.slot), one(movTo(3, 1), atomic(4, 0, 0, 3))), x.back},
			{"update", program(right(2, x.slot, -8), one(call(2))), x.back},
			{"lookup", program(right(1, x.slot, -8), one(call(1))), allRight},
		})
	}
	e := verify.Env{Specs: specs, Frozen: []bool{false, false, true}}
	checkAll(t, e, []example{
		{"push", program(right(87, 2, -8), one(call(87))), 0},
		{"pop", program(right(88, 2, -8), one(call(88))), 0},
		{"peek", program(right(89, 2, -8), one(call(89))), allRight},
	})
	e.Frozen = []bool{false, true}
	checkAll(t, e, []example{
		{"delete", program(right(3, 1, -8), one(call(3))), 0},
		{"delete elsewhere", program(right(3, 3, -8), one(call(3))), allRight},
		{"peek into a frozen map's cell", program(found(1), one(move(2, 0)), wideMap(1, 2), one(call(89))), 0},
		{"peek into another one", program(found(0), one(move(2, 0)), wideMap(1, 2), one(call(89))), allRight},
	})
}

// P18.1: atomic operations need numbers of both sides, that are there to be read and written.
func TestAtomic(t *testing.T) {
	e := verify.Env{Specs: specs}
	checkAll(t, e, []example{
		{"stack", one(store(8, 10, -8, 1), movTo(3, 1), atomic(8, 10, -8, 3)), allRight},
		{"stack, of 4 bytes", one(store(8, 10, -8, 1), movTo(3, 1), atomic(4, 10, -4, 3)), allRight},
		{"across words", one(store(8, 10, -8, 1), store(8, 10, -16, 1), movTo(3, 1), atomic(8, 10, -12, 3)), allRight},
		{"a byte that isn't written", one(store(8, 10, -8, 1), movTo(3, 1), atomic(8, 10, -9, 3)), 0},
		{"no byte that is written", one(movTo(3, 1), atomic(4, 10, -8, 3)), 0},
		{"outside", one(store(8, 10, -8, 1), movTo(3, 1), atomic(8, 10, -7, 3)), 0},
		{"a place", one(storeOf(8, 10, -8, 1), movTo(3, 1), atomic(8, 10, -8, 3)), 0},
		{"by a place", one(store(8, 10, -8, 1), atomic(8, 10, -8, 1)), 0},
		{"by nothing", one(store(8, 10, -8, 1), atomic(8, 10, -8, 3)), 0},
		{"context", one(movTo(3, 1), atomic(8, 1, 0, 3)), 0},
		{"cell", program(found(0), one(movTo(3, 1), atomic(8, 0, 8, 3))), allRight},
		{"cell, outside", program(found(0), one(movTo(3, 1), atomic(8, 0, 9, 3))), 0},
		{"cell, of a word's half", program(found(0), one(movTo(3, 1), atomic(4, 0, 12, 3))), allRight},
		{"it stays a number", one(store(8, 10, -8, 1), movTo(3, 1), atomic(8, 10, -8, 3), load(4, 0, 10, -6)), allRight},
	})
}

// P18.1: what is saved whole in a word is loaded as it was; bytes of numbers are numbers; other bytes nothing.
func TestStack(t *testing.T) {
	e := verify.Env{Specs: specs}
	checkAll(t, e, []example{
		{"context", one(addTo(1, 24), storeOf(8, 10, -64, 1), load(8, 3, 10, -64), load(8, 4, 3, 0)), allRight},
		{"context, one byte less", one(addTo(1, 25), storeOf(8, 10, -64, 1), load(8, 3, 10, -64), load(8, 4, 3, 0)), 0},
		{"stack", one(storeOf(8, 10, -8, 10), load(8, 3, 10, -8), store(8, 3, -16, 1), load(1, 4, 10, -9)), allRight},
		{"map", program(wideMap(3, 1), one(storeOf(8, 10, -16, 3), store(8, 10, -8, 1), load(8, 1, 10, -16)), at(2, -8), one(call(1))), allRight},
		{"cell", program(found(0), one(storeOf(8, 10, -8, 0), load(8, 3, 10, -8), load(8, 3, 3, 8))), allRight},
		{"a place that isn't at a word", one(storeOf(8, 10, -12, 1)), 0},
		{"a place that isn't whole", one(storeOf(4, 10, -8, 1)), 0},
		{"a place's bytes", one(storeOf(8, 10, -8, 1), load(4, 3, 10, -8)), 0},
		{"a place's bytes about it", one(store(8, 10, -16, 1), storeOf(8, 10, -8, 1), load(8, 3, 10, -12)), 0},
		{"a place that is written over", one(storeOf(8, 10, -8, 1), store(1, 10, -1, 1), load(8, 3, 10, -8)), 0},
		{"a place that is written over whole", one(storeOf(8, 10, -8, 1), store(8, 10, -8, 1), load(4, 3, 10, -6)), allRight},
		{"two places that are written over at once", one(storeOf(8, 10, -8, 1), storeOf(8, 10, -16, 1), store(8, 10, -12, 1), load(8, 3, 10, -8)), 0},
		{"the other one of both", one(storeOf(8, 10, -8, 1), storeOf(8, 10, -16, 1), store(8, 10, -12, 1), load(8, 3, 10, -16)), 0},
		{"a number's bytes", one(store(8, 10, -8, 1), load(2, 3, 10, -3), load(1, 4, 10, -1)), allRight},
		{"two numbers' bytes", one(store(4, 10, -8, 1), store(2, 10, -4, 1), load(2, 3, 10, -5), load(4, 4, 10, -7)), allRight},
		{"a byte too many", one(store(4, 10, -8, 1), store(2, 10, -4, 1), load(4, 4, 10, -5)), 0},
		{"on one way alone", one(load(8, 6, 1, 0), jeq(6, 0, 1), store(1, 10, -8, 1), load(1, 3, 10, -8)), 0},
		{"on both ways", one(load(8, 6, 1, 0), jeq(6, 0, 2), store(1, 10, -8, 1), always(1), store(1, 10, -8, 2), load(1, 3, 10, -8)), allRight},
		{"a number may be stored in a cell", program(found(0), one(movTo(3, 1), storeOf(8, 0, 8, 3))), allRight},
		{"a place in a cell", program(found(0), one(storeOf(8, 0, 0, 10))), 0},
		{"a cell in a cell", program(found(0), one(storeOf(8, 0, 0, 0))), 0},
	})
}

// P18.1: operations of numbers; of places only those that layer 20 has.
func TestALU(t *testing.T) {
	e := verify.Env{Specs: specs}
	ops := []uint8{0x00, 0x10, 0x20, 0x30, 0x40, 0x50, 0x60, 0x70, 0x90, 0xa0, 0xb0, 0xc0}
	for _, op := range ops {
		for _, class := range []uint8{4, 7} {
			byNumber := api.Insn{Op: op | class, Dst: 6, Imm: 1}
			byRegister := api.Insn{Op: op | class | 8, Dst: 6, Src: 7}
			moves := class == 7 && (op == 0x00 || op == 0x10)
			isMov := op == 0xb0
			places := program(found(0), one(load(8, 3, 1, 0)))
			places = program(one(move(8, 1)), found(0), one(move(9, 0), movTo(3, 5)))
			for _, x := range []struct {
				name       string
				dst        []api.Insn
				src        []api.Insn
				isNumber   bool
				isPlace    bool
				srcMoves   bool
				srcNothing bool
			}{
				{"numbers", one(movTo(6, 1)), one(movTo(7, 1)), true, false, false, false},
				{"a number and a place", one(movTo(6, 1)), one(move(7, 10)), true, false, true, false},
				{"a number and a cell", one(movTo(6, 1)), one(move(7, 9)), true, false, true, false},
				{"a number and nothing", one(movTo(6, 1)), one(movTo(3, 5)), true, false, false, true},
				{"a context's place", one(move(6, 8)), one(movTo(7, 1)), false, true, false, false},
				{"a stack's place", one(move(6, 10)), one(movTo(7, 1)), false, true, false, false},
				{"a cell's place", one(move(6, 9)), one(movTo(7, 1)), false, true, false, false},
				{"a map", wideMap(6, 0), one(movTo(7, 1)), false, false, false, false},
				{"nothing", one(movTo(3, 5)), one(movTo(7, 1)), false, false, false, false},
				{"two places", one(move(6, 10)), one(move(7, 10)), false, false, true, false},
				{"a place and nothing", one(move(6, 10)), one(movTo(3, 5)), false, true, false, true},
				{"a place and a map", one(move(6, 10)), wideMap(7, 0), false, true, false, true},
			} {
				before := program(places, x.dst, x.src)
				okByNumber := x.isNumber || x.isPlace && moves || isMov
				okByRegister := x.isNumber || x.isPlace && moves || isMov
				if x.srcMoves {
					okByRegister = class == 7 && (isMov || x.isNumber && op == 0)
				}
				if x.srcNothing {
					okByRegister = isMov && class == 7 && x.name == "a place and a map"
				}
				if x.name == "two places" {
					okByNumber = moves || isMov
				}
				for _, y := range []struct {
					last api.Insn
					ok   bool
				}{{byNumber, okByNumber}, {byRegister, okByRegister}} {
					back := allRight
					if !y.ok {
						back = 0
					}
					example{x.name, program(before, one(y.last)), back}.check(t, e)
				}
			}
		}
	}
	for _, op := range []uint8{0x84, 0x87} {
		checkAll(t, e, []example{
			{"neg of a number", one(movTo(6, 1), api.Insn{Op: op, Dst: 6}), allRight},
			{"neg of a place", one(move(6, 1), api.Insn{Op: op, Dst: 6}), 0},
			{"neg of a map", program(wideMap(6, 0), one(api.Insn{Op: op, Dst: 6})), 0},
			{"neg of nothing", one(api.Insn{Op: op, Dst: 6}), 0},
		})
	}
	checkAll(t, e, []example{
		{"a short mov of a place", one(api.Insn{Op: 0xbc, Dst: 6, Src: 10}), 0},
		{"a short mov of a map", program(wideMap(7, 0), one(api.Insn{Op: 0xbc, Dst: 6, Src: 7})), 0},
		{"mov of nothing", one(move(6, 7)), 0},
		{"mov of a Maybe", program(find(0), one(move(6, 0))), allRight},
		{"a short mov of a Maybe", program(find(0), one(api.Insn{Op: 0xbc, Dst: 6, Src: 0})), 0},
		{"a Maybe that is moved", program(find(0), one(addTo(0, 0))), 0},
		{"a Maybe that is added to", program(find(0), one(movTo(6, 1), addOf(6, 0))), 0},
	})
}

// P18.1: numbers that are moved by: how far, and how surely known.
func TestMoves(t *testing.T) {
	e := verify.Env{Specs: specs}
	for _, n := range []int32{-64, -63, -1, 0, 1, 63, 64} {
		checkAll(t, e, []example{
			{"context", one(addTo(1, n), subFrom(1, n), load(8, 3, 1, 24)), allRight},
			{"stack", one(move(3, 10), subFrom(3, n), addTo(3, n), store(8, 3, -8, 1)), allRight},
			{"cell", program(found(0), one(addTo(0, n), subFrom(0, n), load(8, 3, 0, 8))), allRight},
			{"context by a register", one(movTo(3, n), addOf(1, 3), subOf(1, 3), load(8, 3, 1, 24)), allRight},
			{"stack by a register", one(movTo(3, n), move(4, 10), subOf(4, 3), addOf(4, 3), store(8, 4, -8, 1)), allRight},
			{"cell by a register", program(found(0), one(movTo(3, n), addOf(0, 3), subOf(0, 3), load(8, 3, 0, 8))), allRight},
			{"a number by a place", one(movTo(3, n), addOf(3, 1), subFrom(3, n), load(8, 3, 3, 24)), allRight},
			{"one too far", one(movTo(3, n), addOf(3, 1), subFrom(3, n), load(8, 3, 3, 25)), 0},
		})
	}
	checkAll(t, e, []example{
		{"again and again", program(slices.Repeat(one(addTo(1, 64)), 40), slices.Repeat(one(subFrom(1, 64)), 40), one(load(8, 3, 1, 0))), allRight},
		{"a number that was reckoned", one(movTo(3, 40), api.Insn{Op: 0x37, Dst: 3, Imm: 5}, addOf(1, 3), load(8, 4, 1, 16)), allRight},
		{"a number that a jump tells", one(load(1, 3, 1, 0), jeq(3, 8, 2), movTo(0, 0), exit, addOf(1, 3), load(8, 4, 1, 16)), allRight},
		{"a number below 0", one(movTo(3, -8), addOf(1, 3), load(8, 4, 1, 8)), allRight},
		{"a number of 64 bits", program(wide(3, math.MaxUint64-7), one(addOf(1, 3), load(8, 4, 1, 8))), allRight},
		{"a number that isn't known, context", one(load(1, 3, 1, 0), andTo(3, 1), addOf(1, 3)), 0},
		{"a number that isn't known, from a context's", one(load(1, 3, 1, 0), andTo(3, 1), addOf(3, 1)), 0},
		{"a number that isn't known, stack", one(load(1, 3, 1, 0), andTo(3, 1), move(4, 10), subOf(4, 3)), 0},
	})
}

// P18.1: with privilege places of cells are moved by numbers that are bounded alone, from -64 to 64; without, by none that isn't alone.
func TestMovesByBoundedNumbers(t *testing.T) {
	unknown := program(one(load(8, 6, 1, 0)), found(0))
	jslt := func(imm int32, off int16) api.Insn { return api.Insn{Op: 0xc5, Dst: 6, Imm: imm, Off: off} }
	jsgt := func(imm int32, off int16) api.Insn { return api.Insn{Op: 0x65, Dst: 6, Imm: imm, Off: off} }
	// between has a number from least to most in register 6.
	between := func(least, most int32) []api.Insn {
		return program(unknown, one(jslt(least, 1), always(2), movTo(0, 0), exit, jsgt(most, -3)))
	}
	out := func(l ...api.Insn) []api.Insn { return program(unknown, l) }
	for _, x := range []struct {
		name string
		l    []api.Insn
		back int
	}{
		{"bits", out(andTo(6, 7), addOf(0, 6), load(8, 3, 0, 1)), allRight},
		{"bits, one byte too many", out(andTo(6, 7), addOf(0, 6), load(8, 3, 0, 2)), 0},
		{"bits, back", out(andTo(6, 7), addTo(0, 7), subOf(0, 6), load(8, 3, 0, 1)), allRight},
		{"bits, back, a byte ahead", out(andTo(6, 7), addTo(0, 7), subOf(0, 6), load(8, 3, 0, -1)), 0},
		{"bits, back, a byte behind", out(andTo(6, 7), addTo(0, 7), subOf(0, 6), load(8, 3, 0, 2)), 0},
		{"a number by a place", out(andTo(6, 7), addOf(6, 0), load(8, 3, 6, 1)), allRight},
		{"a jump", program(between(0, 8), one(addOf(0, 6), store(8, 0, 0, 1))), allRight},
		{"a jump, one too many", program(between(0, 9), one(addOf(0, 6), store(8, 0, 0, 1))), 0},
		{"a jump, one too few", program(between(-1, 8), one(addOf(0, 6), store(8, 0, 0, 1))), 0},
		{"the bounds", program(between(-64, 64), one(addOf(0, 6))), allRight},
		{"below them", program(between(-65, 64), one(addOf(0, 6))), 0},
		{"above them", program(between(-64, 65), one(addOf(0, 6))), 0},
		{"the bounds, back", program(between(-64, 64), one(subOf(0, 6))), allRight},
		{"below them, back", program(between(-65, 64), one(subOf(0, 6))), 0},
		{"above them, back", program(between(-64, 65), one(subOf(0, 6))), 0},
		{"whatever", out(addOf(0, 6)), 0},
		{"twice", out(andTo(6, 3), addOf(0, 6), addOf(0, 6), load(8, 3, 0, 2)), allRight},
		{"twice, one byte too many", out(andTo(6, 3), addOf(0, 6), addOf(0, 6), load(8, 3, 0, 3)), 0},
		{"there and back isn't the same", out(andTo(6, 3), addOf(0, 6), subOf(0, 6), load(8, 3, 0, 0)), 0},
		{"saved", out(andTo(6, 7), addOf(0, 6), storeOf(8, 10, -8, 0), load(8, 4, 10, -8), load(8, 3, 4, 1)), allRight},
		{"a place of the stack", out(andTo(6, 7), move(3, 10), subOf(3, 6)), 0},
		{"a place of the context", program(one(move(7, 1)), unknown, one(andTo(6, 7), addOf(7, 6))), 0},
		{"a key", program(one(load(8, 6, 1, 0)), found(0), one(andTo(6, 7), move(2, 0), addOf(2, 6), addTo(2, 1)), wideMap(1, 1), one(call(1))), allRight},
		{"a key, one too far", program(one(load(8, 6, 1, 0)), found(0), one(andTo(6, 7), move(2, 0), addOf(2, 6), addTo(2, 2)), wideMap(1, 1), one(call(1))), 0},
		{"peeked into", program(one(load(8, 6, 1, 0)), found(0), one(andTo(6, 7), move(2, 0), addOf(2, 6), addTo(2, 3)), wideMap(1, 2), one(call(89))), allRight},
		{"peeked into, one too far", program(one(load(8, 6, 1, 0)), found(0), one(andTo(6, 7), move(2, 0), addOf(2, 6), addTo(2, 4)), wideMap(1, 2), one(call(89))), 0},
	} {
		l := program(x.l, end)
		r, err := verify.Check(l, verify.Env{Specs: specs, Privileged: true})
		want, place := api.OK, 0
		if x.back != allRight {
			want, place = api.EACCES, len(x.l)-1-x.back
		}
		if err != want || r.At != place {
			t.Errorf("%s: %+v, %d", x.name, r, err)
		}
		if slices.ContainsFunc(l, func(i api.Insn) bool { return i.Op == 0x65 }) {
			continue // it has a jump back
		}
		if r, err := verify.Check(l, verify.Env{Specs: specs}); err != api.EACCES || l[r.At].Op != 0x0f && l[r.At].Op != 0x1f {
			t.Errorf("%s, without privilege: %+v, %d", x.name, r, err)
		}
	}
}

// P18.1: a number is alone by its bounds, not by how it came.
func TestNumbersAlone(t *testing.T) {
	e := verify.Env{Specs: specs}
	before := program(one(load(8, 6, 1, 0)), found(0))
	checkAll(t, e, []example{
		{"no bit", program(before, one(andTo(6, 0), addOf(0, 6), load(8, 3, 0, 8))), allRight},
		{"mul by 0", program(before, one(api.Insn{Op: 0x27, Dst: 6}, addOf(0, 6), load(8, 3, 0, 8))), allRight},
		{"compared", program(before, one(jeq(6, 4, 2), movTo(0, 0), exit, addOf(0, 6), load(8, 3, 0, 4))), allRight},
		{"compared, one too far", program(before, one(jeq(6, 4, 2), movTo(0, 0), exit, addOf(0, 6), load(8, 3, 0, 5))), 0},
		{"loaded again", program(before, one(store(8, 10, -16, 4), load(8, 6, 10, -16), andTo(6, 0), addOf(0, 6))), allRight},
	})
}

// P18.1: comparisons of numbers tell of both registers; of 32 bits too; ways that can't be aren't gone.
func TestJumps(t *testing.T) {
	e := verify.Env{Specs: specs}
	never := load(1, 3, 1, 32) // it can't be done
	checkAll(t, e, []example{
		{"a way that can't be", one(movTo(6, 3), jeq(6, 3, 1), never), allRight},
		{"the other way that can't be", one(movTo(6, 3), jeq(6, 4, 1), always(1), never), allRight},
		{"both ways can be", one(load(1, 6, 1, 0), jeq(6, 3, 1), never), 0},
		{"by a register", one(movTo(6, 3), movTo(7, 3), api.Insn{Op: 0x1d, Dst: 6, Src: 7, Off: 1}, never), allRight},
		{"beyond a byte", one(load(1, 6, 1, 0), jgt(6, 255, 1), always(1), never), allRight},
		{"of 32 bits", one(load(4, 6, 1, 0), api.Insn{Op: 0x36, Dst: 6, Imm: 0, Off: 1}, never), allRight},
		{"with a sign", one(load(4, 6, 1, 0), api.Insn{Op: 0xc5, Dst: 6, Imm: 0, Off: 1}, always(1), never), allRight},
		{"Src is told of", one(load(1, 6, 1, 0), movTo(7, 200), api.Insn{Op: 0x2d, Dst: 7, Src: 6, Off: 2}, movTo(0, 0), exit, jgt(6, 199, 1), always(1), never), allRight},
		{"Dst is told of", one(load(1, 6, 1, 0), movTo(7, 200), api.Insn{Op: 0xad, Dst: 6, Src: 7, Off: 2}, movTo(0, 0), exit, jgt(6, 199, 1), always(1), never), allRight},
		{"both are told of", one(load(1, 6, 1, 0), load(1, 7, 1, 1), api.Insn{Op: 0x2d, Dst: 7, Src: 6, Off: 2}, movTo(0, 0), exit, jeq(7, 0, 1), always(1), never), allRight},
		{"no register besides", one(load(1, 6, 1, 0), move(7, 6), jeq(6, 3, 2), movTo(0, 0), exit, jeq(7, 3, 1), never), 0},
		{"itself", one(load(8, 6, 1, 0), api.Insn{Op: 0x1d, Dst: 6, Src: 6, Off: 1}, movTo(3, 1)), allRight},
		{"two numbers, of which neither is known", one(load(8, 6, 1, 0), load(8, 7, 1, 8), api.Insn{Op: 0x1d, Dst: 6, Src: 7, Off: 1}, movTo(3, 1)), allRight},
		{"a number and a place", one(movTo(6, 3), api.Insn{Op: 0x1d, Dst: 6, Src: 10, Off: 0}), 0},
		{"a place and a number", one(movTo(6, 0), api.Insn{Op: 0x1d, Dst: 10, Src: 6, Off: 0}), 0},
		{"a number and nothing", one(movTo(6, 0), api.Insn{Op: 0x1d, Dst: 6, Src: 7, Off: 0}), 0},
		{"nothing", one(jeq(6, 0, 0)), 0},
		{"nothing and a number", one(movTo(7, 0), api.Insn{Op: 0x1d, Dst: 6, Src: 7, Off: 0}), 0},
	})
}

// P18.1: places and maps are compared with Imm 0 by long jeq and jne alone, and are never equal.
func TestPlacesAndNought(t *testing.T) {
	e := verify.Env{Specs: specs}
	never := load(1, 3, 1, 32) // it can't be done
	for _, x := range []example{
		{"context", one(move(6, 1)), 0}, {"stack", one(move(6, 10)), 0}, {"map", wideMap(6, 0), 0}, {"cell", program(found(0), one(move(6, 0))), 0},
	} {
		checkAll(t, e, []example{
			{x.name + ", jne", program(x.l, one(jne(6, 0, 1), never)), allRight},
			{x.name + ", jeq", program(x.l, one(jeq(6, 0, 1), always(1), never)), allRight},
			{x.name + ", jne goes nowhere else", program(x.l, one(jne(6, 0, 1), always(1), never)), 0},
			{x.name + ", jeq goes nowhere else", program(x.l, one(jeq(6, 0, 1), never)), 0},
		})
		for _, op := range []uint8{0x16, 0x56, 0x25, 0x35, 0x45, 0x65, 0x75, 0xa5, 0xb5, 0xc5, 0xd5} {
			example{x.name, program(x.l, one(api.Insn{Op: op, Dst: 6})), 0}.check(t, e)
		}
		for _, op := range []uint8{0x1d, 0x5d} {
			example{x.name, program(x.l, one(movTo(7, 0), api.Insn{Op: op, Dst: 6, Src: 7})), 0}.check(t, e)
			example{x.name, program(x.l, one(api.Insn{Op: op, Dst: 6, Src: 6})), 0}.check(t, e)
		}
		for _, imm := range []int32{1, -1, math.MinInt32} {
			checkAll(t, e, []example{{x.name, program(x.l, one(jeq(6, imm, 0))), 0}, {x.name, program(x.l, one(jne(6, imm, 0))), 0}})
		}
	}
}

// P18.1: a lookup's answer may be used where it was found not to be 0 alone; all that are the same are found at once.
func TestMaybe(t *testing.T) {
	e := verify.Env{Specs: specs}
	two := program(find(0), one(move(6, 0)), find(0)[1:], one(move(7, 0))) // two lookups
	checkAll(t, e, []example{
		{"jeq", program(find(0), one(jeq(0, 0, 1), load(1, 3, 0, 0))), allRight},
		{"jeq, the other way", program(find(0), one(jeq(0, 0, 1), always(1), load(1, 3, 0, 0))), 0},
		{"jne", program(find(0), one(jne(0, 0, 2), movTo(0, 0), exit, load(1, 3, 0, 0))), allRight},
		{"jne, the other way", program(find(0), one(jne(0, 0, 1), load(1, 3, 0, 0))), 0},
		{"not compared", program(find(0), one(load(1, 3, 0, 0))), 0},
		{"an Array's first entry, too", program(find(0), one(store(1, 0, 0, 0))), 0},
		{"moved ahead", program(find(0), one(move(6, 0), jeq(0, 0, 1), load(1, 3, 6, 0))), allRight},
		{"moved ahead, and compared itself", program(find(0), one(move(6, 0), jeq(6, 0, 1), load(1, 3, 0, 0))), allRight},
		{"saved ahead", program(find(0), one(storeOf(8, 10, -16, 0), jeq(0, 0, 2), load(8, 6, 10, -16), load(1, 3, 6, 0))), allRight},
		{"saved, and loaded ahead", program(find(0), one(storeOf(8, 10, -16, 0), load(8, 6, 10, -16), jeq(6, 0, 1), load(1, 3, 0, 0))), allRight},
		{"saved bytes", program(find(0), one(storeOf(8, 10, -16, 0), load(4, 6, 10, -16))), 0},
		{"saved bytes of nought", program(find(0), one(storeOf(8, 10, -16, 0), jne(0, 0, 2), load(4, 6, 10, -16), load(8, 0, 10, -16))), allRight},
		{"saved bytes of a cell", program(find(0), one(storeOf(8, 10, -16, 0), jeq(0, 0, 1), load(4, 6, 10, -16))), 0},
		{"another lookup's", program(two, one(jeq(6, 0, 1), load(1, 3, 7, 0))), 0},
		{"each of two", program(two, one(jeq(6, 0, 3), load(1, 3, 6, 0), jeq(7, 0, 1), load(1, 3, 7, 0))), allRight},
		{"nought is a number", program(find(0), one(move(6, 0), jne(0, 0, 2), addTo(6, 8), addOf(6, 0))), allRight},
		{"nought may be added to a place", program(find(0), one(move(6, 10), jne(0, 0, 2), addOf(6, 0), store(8, 6, -16, 0))), allRight},
		{"compared with another number", program(find(0), one(jeq(0, 1, 0))), 0},
		{"compared by 32 bits", program(find(0), one(api.Insn{Op: 0x16, Dst: 0})), 0},
		{"compared otherwise", program(find(0), one(jgt(0, 0, 0))), 0},
		{"compared with a register", program(find(0), one(movTo(6, 0), api.Insn{Op: 0x1d, Dst: 0, Src: 6})), 0},
		{"saved in a cell", program(find(0), one(move(6, 0)), found(0), one(storeOf(8, 0, 0, 6))), 0},
		{"saved where no word is", program(find(0), one(storeOf(8, 10, -12, 0))), 0},
		{"a key", program(find(1), one(move(2, 0)), wideMap(1, 1), one(call(1))), 0},
		{"a key that was found", program(found(1), one(move(2, 0)), wideMap(1, 1), one(call(1))), allRight},
	})
	for slot := range int32(4) {
		if slot != 2 {
			example{"a map of any type", program(find(slot), one(load(1, 3, 0, 0))), 0}.check(t, e)
			example{"a map of any type, found", program(found(slot), one(load(4, 3, 0, 0))), allRight}.check(t, e)
		}
	}
}

// P18.2: where ways come together, what comes must do on each of them, whichever is gone first.
func TestWaysThatComeTogether(t *testing.T) {
	unknown := one(load(8, 6, 1, 0))
	saved := func(l ...api.Insn) []api.Insn { return l }
	both := program(find(0), one(move(7, 0)), find(0)[1:], one(move(8, 0), load(8, 6, 9, 0)))
	both = program(one(move(9, 1)), both)
	spilled := program(both, one(storeOf(8, 10, -24, 7), storeOf(8, 10, -32, 8)))
	// Each has what goes ahead, what a way must do, what it mayn't, and what comes then.
	for _, x := range []struct {
		name                     string
		before, right, wrong, on []api.Insn
	}{
		{"a number", unknown, one(movTo(7, 8)), one(movTo(7, 9)), one(addOf(1, 7), load(8, 3, 1, 16))},
		{"a number, and none", unknown, one(movTo(7, 8)), one(move(7, 1)), one(addOf(1, 7))},
		{"a register that has nothing", program(unknown, one(call(5))), one(movTo(3, 8)), nil, one(move(4, 3))},
		{"a place further on", unknown, one(move(7, 1)), one(move(7, 1), addTo(7, 1)), one(load(8, 3, 7, 24))},
		{"a place further back", unknown, one(move(7, 1)), one(move(7, 1), addTo(7, -1)), one(load(8, 3, 7, 0))},
		{"a place of another kind", unknown, one(move(7, 10), addTo(7, -8)), one(move(7, 1)), one(store(8, 7, 0, 1))},
		{"a map", unknown, wideMap(7, 1), wideMap(7, 0), program(one(store(8, 10, -8, 0), move(1, 7)), at(2, -8), one(call(3)))},
		{"a saved number's bytes", unknown, one(store(8, 10, -16, 0)), one(store(4, 10, -16, 0)), one(load(8, 3, 10, -16))},
		{"a saved place", unknown, saved(storeOf(8, 10, -16, 1)), saved(storeOf(8, 10, -16, 10)), one(load(8, 3, 10, -16), load(8, 4, 3, 0))},
		{"a saved place, and a number", unknown, saved(storeOf(8, 10, -16, 1)), saved(store(8, 10, -16, 1)), one(load(8, 3, 10, -16), load(8, 4, 3, 0))},
		{"a saved place, and nothing", unknown, saved(storeOf(8, 10, -16, 1)), nil, one(load(8, 3, 10, -16))},
		{"a Maybe of the same lookup", both, one(move(9, 7)), one(move(9, 8)), one(jeq(7, 0, 1), load(1, 3, 9, 0))},
		{"a saved Maybe of the same lookup", spilled, one(storeOf(8, 10, -24, 7)), one(storeOf(8, 10, -24, 8)), one(jeq(7, 0, 2), load(8, 9, 10, -24), load(1, 3, 9, 0))},
		{"a Maybe of a shorter cell", unknown, find(0), find(1), one(jeq(0, 0, 1), load(8, 3, 0, 1))},
		{"a shorter cell", unknown, found(0), found(1), one(load(8, 3, 0, 1))},
		{"a Maybe that wasn't asked for", unknown, found(0), find(0), one(load(8, 3, 0, 1))},
	} {
		for _, y := range []struct {
			name       string
			next, over []api.Insn
			wrong      bool
		}{
			{"right", x.right, x.right, false}, {"wrong", x.wrong, x.wrong, true},
			{"wrong when it is gone over", x.right, x.wrong, true}, {"wrong when it isn't gone over", x.wrong, x.right, true},
		} {
			// Nothing else of the two ways differs: register 6 is the same on both.
			next := program(one(movTo(6, 0)), y.next, one(always(int16(len(y.over)+1))))
			l := program(x.before, one(jeq(6, 0, int16(len(next)))), next, one(movTo(6, 0)), y.over, x.on, end)
			for _, privileged := range []bool{false, true} {
				r, err := verify.Check(l, verify.Env{Specs: specs, Privileged: privileged})
				last := len(l) - len(end) - len(x.on)
				if (err == api.EACCES && r.At >= last) != y.wrong || (err == api.OK) == y.wrong {
					t.Errorf("%s, %s, %t: %+v, %d", x.name, y.name, privileged, r, err)
				}
			}
		}
	}
}

// P18.2: where ways come together, a place of a cell that is moved by bounded numbers is all that each of them makes of it.
func TestBoundedWaysThatComeTogether(t *testing.T) {
	before := program(one(move(9, 1)), found(0), one(load(1, 6, 9, 0), load(1, 7, 9, 1)))
	for _, x := range []struct{ next, over, off, on int32 }{{7, 3, 0, 1}, {3, 7, 0, 1}, {7, 7, 0, 1}, {3, 3, 0, 5}, {0, 7, 0, 1}, {7, 0, 0, 1}} {
		for _, back := range []bool{false, true} {
			for _, on := range []int32{x.on, x.on + 1} {
				by, off := addOf(0, 7), on
				if back {
					by, off = subOf(0, 7), 8-on
				}
				l := program(before, one(
					jeq(6, 0, 3), movTo(6, 0), andTo(7, x.next), always(2), movTo(6, 0), andTo(7, x.over), by, load(8, 3, 0, int16(off))), end)
				want := api.OK
				if on > x.on {
					want = api.EACCES
				}
				if r, err := verify.Check(l, verify.Env{Specs: specs, Privileged: true}); err != want {
					t.Errorf("%+v, %t, %d: %+v, %d", x, back, on, r, err)
				}
			}
		}
	}
}

// P18.1: maps of slots that have a Spec alone.
func TestWide(t *testing.T) {
	for count := range 5 {
		for slot := range int32(4) {
			back := allRight
			if int(slot) >= count {
				back = 1
			}
			checkAll(t, verify.Env{Specs: specs[:count]}, []example{{"map", wideMap(6, slot), back}})
		}
	}
	checkAll(t, verify.Env{Specs: specs}, []example{
		{"a number of 64 bits", program(wide(6, 1<<32+1), one(jeq(6, 1, 1), always(1), load(1, 3, 1, 32))), allRight},
		{"its upper bits", program(wide(6, 1<<32), one(api.Insn{Op: 0x77, Dst: 6, Imm: 30}, addOf(1, 6), load(8, 3, 1, 20))), allRight},
		{"its lower bits", program(wide(6, math.MaxUint32<<32|4), one(api.Insn{Op: 0xbc, Dst: 6, Src: 6}, addOf(1, 6), load(8, 3, 1, 20))), allRight},
		{"its lower bits have no sign", program(wide(6, math.MaxUint32), one(addOf(1, 6))), 0},
	})
}

// right is what a helper needs, of a slot's map: a key, a value or a place at one of the stack, of which 16 bytes are written.
func right(helper, slot, place int32) []api.Insn {
	l := program(one(store(8, 10, -8, 0), store(8, 10, -16, 0)), wideMap(1, slot), at(2, place), at(3, -16), one(movTo(4, 0)))
	if helper == 87 {
		l = append(l, movTo(3, 0))
	}
	return l
}

var helpers = []int32{1, 2, 3, 5, 7, 87, 88, 89}

// P18.1: which helper may be called with a map of which type.
func TestHelpersMaps(t *testing.T) {
	types := []bmap.Spec{
		{Type: api.Array, Key: 4, Value: 8, Entries: 1}, {Type: api.Hash, Key: 4, Value: 8, Entries: 1}, {Type: api.LRU, Key: 4, Value: 8, Entries: 1},
		{Type: api.Queue, Value: 8, Entries: 1}, {Type: api.Stack, Value: 8, Entries: 1}, {Type: api.Prefix, Key: 5, Value: 8, Entries: 1},
	}
	may := map[int32][]int{1: {0, 1, 2, 5}, 2: {0, 1, 2, 5}, 3: {1, 2, 5}, 5: {0, 1, 2, 3, 4, 5}, 7: {0, 1, 2, 3, 4, 5}, 87: {3, 4}, 88: {3, 4}, 89: {3, 4}}
	changes := []int32{2, 3, 87, 88}
	for _, helper := range helpers {
		for _, spec := range types {
			for _, frozen := range []bool{false, true} {
				back := 0
				if slices.Contains(may[helper], spec.Type) && !(frozen && slices.Contains(changes, helper)) {
					back = allRight
				}
				checkAll(t, verify.Env{Specs: []bmap.Spec{spec}, Frozen: []bool{frozen}}, []example{
					{"map", program(right(helper, 0, -16), one(call(helper))), back},
				})
			}
		}
	}
}

// P18.1: what each helper needs, register by register, of all kinds that they may have.
func TestHelpersNeeds(t *testing.T) {
	needs := map[int32]string{1: "mb", 2: "mbbf", 3: "mb", 5: "", 7: "", 87: "mbf", 88: "mp", 89: "mp"}
	kinds := map[byte]string{'m': "m", 'b': "csl", 'p': "sl", 'f': "n"}
	// Before: register 6 has the context, 7 the stack, 8 a cell, 9 maybe one; 5 is nothing.
	before := program(one(move(6, 1), move(7, 10), addTo(7, -16)), found(0), one(move(8, 0)), find(0), one(move(9, 0), movTo(0, 3)))
	from := map[byte]uint8{'n': 0, 'c': 6, 's': 7, 'l': 8, '?': 9}
	for _, helper := range helpers {
		slot := int32(1)
		if helper >= 87 {
			slot = 2
		}
		for reg := uint8(1); reg <= 5; reg++ {
			for _, kind := range []byte("ncsl?m") {
				set := one(move(reg, from[kind]))
				if kind == 'm' {
					set = wideMap(reg, slot)
				}
				back := allRight
				if need := needs[helper]; int(reg) <= len(need) {
					allowed := kinds[need[reg-1]]
					if !slices.Contains([]byte(allowed), kind) {
						back = 0
					}
				}
				checkAll(t, verify.Env{Specs: specs}, []example{{string(kind), program(before, right(helper, slot, -16), set, one(call(helper))), back}})
			}
		}
		// Registers that have nothing: behind a call none of those has anything.
		set := map[uint8][]api.Insn{1: wideMap(1, slot), 2: at(2, -16), 3: at(3, -16), 4: one(movTo(4, 0))}
		if helper == 87 {
			set[3] = one(movTo(3, 0))
		}
		for missing := range uint8(6) {
			l := program(right(helper, slot, -16), one(call(5)))
			for reg := uint8(1); reg <= 4; reg++ {
				if reg != missing {
					l = program(l, set[reg])
				}
			}
			back := allRight
			if missing > 0 && int(missing) <= len(needs[helper]) {
				back = 0
			}
			checkAll(t, verify.Env{Specs: specs}, []example{{"nothing", program(l, one(call(helper))), back}})
		}
	}
}

// P18.1: keys and values of as many bytes as the map says, all written as numbers; places with as much room.
func TestHelpersBytes(t *testing.T) {
	e := verify.Env{Specs: specs}
	back := func(ok bool) int {
		if ok {
			return allRight
		}
		return 0
	}
	for place := int32(-64); place <= 0; place++ {
		checkAll(t, e, []example{
			{"lookup of 8 bytes", program(right(1, 1, place), one(call(1))), back(place >= -16 && place <= -8)},
			{"lookup of 4 bytes", program(right(1, 0, place), one(call(1))), back(place >= -16 && place <= -4)},
			{"delete of 6 bytes", program(right(3, 3, place), one(call(3))), back(place >= -16 && place <= -6)},
			{"update's key", program(right(2, 1, place), one(call(2))), back(place >= -16 && place <= -8)},
			{"update's value", program(right(2, 0, -16), at(3, place), one(call(2))), back(place == -16)},
			{"push of 6 bytes", program(right(87, 2, place), one(call(87))), back(place >= -16 && place <= -6)},
			{"pop of 6 bytes", program(right(88, 2, place), one(call(88))), back(place <= -6)},
			{"peek of 6 bytes", program(right(89, 2, place), one(call(89))), back(place <= -6)},
			{"bytes of a place", program(right(1, 0, place), one(storeOf(8, 10, -16, 10), call(1))), back(place >= -8 && place <= -4)},
			{"peeked bytes are numbers", program(right(89, 2, -30), one(call(89), load(4, 3, 10, int16(place)))), back(place >= -30 && place <= -28 || place >= -16 && place <= -4)},
			{"popped bytes are numbers", program(right(88, 2, -30), one(call(88), load(2, 3, 10, int16(place)))), back(place >= -30 && place <= -26 || place >= -16 && place <= -2)},
			{"a place that is peeked over", program(one(storeOf(8, 10, -32, 10)), right(89, 2, place), one(call(89), load(8, 3, 10, -32))), back(place <= -38 || place >= -24 && place <= -6)},
		}[:12-btoi(place > -6)])
	}
	for off := int32(0); off <= 32; off++ {
		checkAll(t, e, []example{
			{"a key in the context", program(one(store(8, 10, -8, 0), move(2, 1), addTo(2, off)), wideMap(1, 1), one(call(1))), back(off <= 24)},
			{"a value in the context", program(one(store(8, 10, -8, 0), move(3, 1), addTo(3, off)), wideMap(1, 0), at(2, -8), one(movTo(4, 0), call(2))), back(off <= 16)},
			{"a key in a cell", program(found(0), one(move(2, 0), addTo(2, off)), wideMap(1, 1), one(call(1))), back(off <= 8)},
			{"peek into a cell", program(found(0), one(move(2, 0), addTo(2, off)), wideMap(1, 2), one(call(89))), back(off <= 10)},
			{"peek into the context", program(one(move(2, 1), addTo(2, off)), wideMap(1, 2), one(call(89))), 0},
		})
	}
	checkAll(t, e, []example{
		{"a key ahead of the context", program(one(move(2, 1), addTo(2, -1)), wideMap(1, 1), one(call(1))), 0},
		{"a key ahead of a cell", program(found(0), one(move(2, 0), addTo(2, -1)), wideMap(1, 1), one(call(1))), 0},
		{"peek ahead of a cell", program(found(0), one(move(2, 0), addTo(2, -1)), wideMap(1, 2), one(call(89))), 0},
		{"peek ahead of the stack", program(wideMap(1, 2), one(move(2, 10), addTo(2, -64), addTo(2, -1)), one(call(89))), 0},
	})
}

func btoi(b bool) int {
	if b {
		return 1
	}
	return 0
}

// P18.1: behind a call registers 1 to 5 are nothing, register 0 is its answer, the others stay.
func TestBehindCalls(t *testing.T) {
	e := verify.Env{Specs: specs}
	for _, helper := range helpers {
		slot := int32(1)
		if helper >= 87 {
			slot = 2
		}
		before := program(one(movTo(5, 5), movTo(6, 6), movTo(7, 7), movTo(8, 8), movTo(9, 9)), right(helper, slot, -16), one(call(helper)))
		for reg := uint8(1); reg <= 9; reg++ {
			back := allRight
			if reg <= 5 {
				back = 0
			}
			example{"register", program(before, one(move(0, reg))), back}.check(t, e)
			if reg > 5 {
				example{"its number", program(before, one(jeq(reg, int32(reg), 1), load(1, 0, 0, 0))), allRight}.check(t, e)
			}
		}
		back := allRight
		if helper == 1 {
			back = 0
		}
		checkAll(t, e, []example{
			{"register 0 is a number", program(before, one(addTo(0, 1))), back},
			{"of which nothing is known", program(before, one(move(6, 0), movTo(0, 0), addOf(10-7, 6))), 0},
		})
		if helper != 1 {
			never := load(1, 3, 3, 32) // it can't be done
			for _, n := range []int32{0, 1, -1, -17, math.MaxInt32} {
				example{"any number", program(before, one(jne(0, n, 1), never)), 0}.check(t, e)
			}
		}
	}
}

// P18.3: what is accepted without privilege is accepted with it, in as many steps.
func TestWithPrivilegeLikewise(t *testing.T) {
	for _, l := range [][]api.Insn{
		end, program(found(0), one(load(8, 3, 0, 0)), end), program(threeWays, slices.Repeat(one(movTo(0, 1)), 168), one(exit)),
		program(find(1), one(jeq(0, 0, 1), store(8, 0, 0, 1)), end),
	} {
		without, err := verify.Check(l, verify.Env{Specs: specs})
		with, other := verify.Check(l, verify.Env{Specs: specs, Privileged: true})
		if err != api.OK || other != api.OK || with != without {
			t.Errorf("%+v, %d, %+v, %d", without, err, with, other)
		}
	}
}

// P18.1: the helpers that are called, rising, each once.
func TestHelpers(t *testing.T) {
	for _, x := range []struct {
		l    []api.Insn
		want []int32
	}{
		{nil, nil},
		{end, nil},
		{one(call(7), call(1), call(7), call(89), exit, call(2)), []int32{1, 2, 7, 89}},
		{one(call(-1), call(4), call(math.MaxInt32), call(math.MinInt32), call(0)), []int32{math.MinInt32, -1, 0, 4, math.MaxInt32}},
		{one(api.Insn{Op: 0x85, Dst: 200, Src: 3, Off: 5, Imm: 9}, api.Insn{Op: 0x8d, Imm: 3}, api.Insn{Op: 0x86, Imm: 3}, api.Insn{Imm: 3}, movTo(0, 3)), []int32{9}},
	} {
		if got := verify.Helpers(x.l); !slices.Equal(got, x.want) {
			t.Errorf("%d, not %d", got, x.want)
		}
	}
}

// P18.1: the slots that are named, rising, each once.
func TestSlots(t *testing.T) {
	named := func(slot int32) api.Insn { return wideMap(0, slot)[0] }
	for _, x := range []struct {
		l    []api.Insn
		want []int
	}{
		{nil, nil},
		{end, nil},
		{program(wideMap(1, 2), wideMap(2, 0), wide(3, 1), wideMap(4, 2), one(exit), wideMap(5, 3)), []int{0, 2, 3}},
		{one(named(7), named(-1), named(math.MaxInt32), named(math.MinInt32), named(0), named(7)), []int{math.MinInt32, -1, 0, 7, math.MaxInt32}},
		{one(api.Insn{Op: 0x18, Src: 2, Imm: 3}, api.Insn{Op: 0x18, Src: 17, Imm: 3}, api.Insn{Op: 0xb7, Src: 1, Imm: 3}, api.Insn{Src: 1, Imm: 3}), nil},
		{one(api.Insn{Op: 0x18, Dst: 77, Src: 1, Off: 4, Imm: 1}, exit), []int{1}},
	} {
		if got := verify.Slots(x.l); !slices.Equal(got, x.want) {
			t.Errorf("%d, not %d", got, x.want)
		}
	}
}

// P18.4: what is handed in stays, its spare room too, and isn't kept; answers are new memory.
func TestArgumentsStay(t *testing.T) {
	whole := program(found(1), one(call(7)), end, one(exit, call(3)), wideMap(1, 3))
	l, as := whole[:len(whole)-4], slices.Clone(whole)
	allSpecs, allFrozen := slices.Clone(specs), []bool{false, true, false, true}
	e := verify.Env{Specs: allSpecs[:2], Frozen: allFrozen[:2]}
	for range 2 {
		if r, err := verify.Check(l, e); err != api.OK || r.At != 0 {
			t.Error(r, err)
		}
		helpers, slots := verify.Helpers(l), verify.Slots(l)
		if !slices.Equal(helpers, []int32{1, 7}) || !slices.Equal(slots, []int{1}) {
			t.Error(helpers, slots)
		}
		helpers[0], slots[0] = 99, 99
	}
	if !slices.Equal(whole, as) || !slices.Equal(allSpecs, specs) || !slices.Equal(allFrozen, []bool{false, true, false, true}) {
		t.Error("changed")
	}
}
