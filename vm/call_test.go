package vm_test

import (
	"bytes"
	"math"
	"slices"
	"testing"

	"tipstaff/api"
	"tipstaff/bmap"
	"tipstaff/vm"
)

// none tells nought less an error, as register 0 has it.
func none(err api.Errno) uint64 { return -uint64(err) }

var (
	arraySpec  = bmap.Spec{Type: api.Array, Key: 4, Value: 8, Entries: 2}
	hashSpec   = bmap.Spec{Type: api.Hash, Key: 3, Value: 5, Entries: 2}
	lruSpec    = bmap.Spec{Type: api.LRU, Key: 1, Value: 1, Entries: 2}
	queueSpec  = bmap.Spec{Type: api.Queue, Value: 6, Entries: 2}
	stackSpec  = bmap.Spec{Type: api.Stack, Value: 6, Entries: 2}
	prefixSpec = bmap.Spec{Type: api.Prefix, Key: 5, Value: 2, Entries: 2}
)

// text is instructions that write a text to the stack, from a place on.
func text(at int16, s string) []api.Insn {
	var l []api.Insn
	for i := range len(s) {
		l = append(l, store(1, 10, at+int16(i), int32(s[i])))
	}
	return l
}

// at puts a place of the stack into a register.
func at(reg uint8, place int32) []api.Insn { return one(move(reg, 10), addTo(reg, place)) }

// run runs a program on maps, and tells what comes.
func run(l []api.Insn, maps ...*bmap.Map) vm.Result {
	return vm.Run(l, vm.World{Maps: maps, Fuel: api.MaxFuel})
}

// value runs a program on maps, that must come to its end, and tells its value.
func value(t *testing.T, l []api.Insn, maps ...*bmap.Map) uint64 {
	t.Helper()
	got := run(l, maps...)
	if got.Err != api.OK {
		t.Fatalf("%+v", got)
	}
	return got.Value
}

// fault runs a program on maps whose place can't be done.
func fault(t *testing.T, l []api.Insn, place int, maps ...*bmap.Map) {
	t.Helper()
	if got := run(l, maps...); got.Err != api.EFAULT || got.At != place || got.Value != 0 {
		t.Errorf("%+v, not EFAULT at %d", got, place)
	}
}

// lookup is a program that looks up a key, and loads the first byte that is found; 999, if none is.
func lookup(key string) []api.Insn {
	return program(text(-16, key), wideMap(1, 0), at(2, -16), one(
		call(1), api.Insn{Op: 0x55, Off: 2}, movTo(0, 999), exit, load(1, 0, 0, 0), exit))
}

// P20.1: lookup tells a cell's place 0, or nought.
func TestLookup(t *testing.T) {
	for _, x := range []struct {
		spec    bmap.Spec
		entries []string
		key     string
		want    uint64
	}{
		{arraySpec, []string{"\x01\x00\x00\x00", "abcdefgh"}, "\x01\x00\x00\x00", 'a'},
		{arraySpec, nil, "\x00\x00\x00\x00", 0},
		{arraySpec, nil, "\x02\x00\x00\x00", 999},
		{hashSpec, []string{"key", "value"}, "key", 'v'},
		{hashSpec, []string{"key", "value"}, "kez", 999},
		{lruSpec, []string{"k", "v"}, "k", 'v'},
		{lruSpec, []string{"k", "v"}, "j", 999},
		{prefixSpec, []string{"\x04\x00\x00\x00\xA0", "pq"}, "\x08\x00\x00\x00\xAF", 'p'},
		{prefixSpec, []string{"\x04\x00\x00\x00\xA0", "pq"}, "\x08\x00\x00\x00\xBF", 999},
		// A number of bits that is too great is no key: nothing is there.
		{prefixSpec, []string{"\x00\x00\x00\x00\xA0", "pq"}, "\x09\x00\x00\x00\xA0", 999},
	} {
		m := newMap(t, x.spec, x.entries...)
		if got := value(t, lookup(x.key), m); got != x.want {
			t.Errorf("%+v: %d", x, got)
		}
		m.Freeze()
		if got := value(t, lookup(x.key), m); got != x.want {
			t.Errorf("frozen, %+v: %d", x, got)
		}
	}
	for _, spec := range []bmap.Spec{queueSpec, stackSpec} {
		l := lookup("")
		fault(t, l, len(l)-6, newMap(t, spec, "", "abcdef"))
	}
}

// P20.1: what is written to a cell that was looked up stands in the map; of a frozen map it can't be.
func TestLookedUpCell(t *testing.T) {
	m := newMap(t, hashSpec, "key", "value")
	l := program(text(-16, "key"), wideMap(1, 0), at(2, -16), one(call(1), store(4, 0, 1, 0x64636261), addTo(0, 4), load(1, 0, 0, 0), exit))
	if got := value(t, l, m); got != 'd' {
		t.Error(got)
	}
	if got, _ := m.Lookup([]byte("key")); string(got) != "vabcd" {
		t.Error(string(got))
	}
	m.Freeze()
	fault(t, l, len(l)-4, m)
	// The cell belongs to the map of its slot.
	second := program(text(-16, "key"), wideMap(1, 1), at(2, -16), one(call(1), store(1, 0, 0, 'V'), movTo(0, 0), exit))
	other := newMap(t, hashSpec, "key", "value")
	if value(t, second, m, other); other.Frozen() {
		t.Error("frozen")
	}
	if got, _ := other.Lookup([]byte("key")); string(got) != "Value" {
		t.Error(string(got))
	}
	fault(t, second, len(second)-3, other, m)
}

// P20.1: lookup uses an LRU's entry.
func TestLookupUses(t *testing.T) {
	m := newMap(t, lruSpec, "a", "1", "b", "2")
	value(t, lookup("a"), m)
	m.Update([]byte("c"), []byte("3"), 0)
	if _, err := m.Lookup([]byte("b")); err != api.ENOENT {
		t.Error(err)
	}
	// A step that can't be done uses none.
	l := program(text(-16, "c"), wideMap(1, 0), at(2, -16), one(movTo(1, 0), call(1), exit))
	fault(t, l, len(l)-2, m)
	if m.Update([]byte("d"), []byte("4"), 0); m.Len() != 2 {
		t.Error(m.Len())
	}
	if _, err := m.Lookup([]byte("a")); err != api.ENOENT {
		t.Error(err)
	}
}

// update is a program that gives a key a value, and tells register 0.
func update(key, value string, flags uint64) []api.Insn {
	return program(text(-16, key), text(-32, value), wideMap(1, 0), at(2, -16), at(3, -32), wide(4, flags), one(call(2), exit))
}

// P20.1: update is the map's, and tells nought less its error.
func TestUpdate(t *testing.T) {
	for _, x := range []struct {
		spec       bmap.Spec
		entries    []string
		key, value string
		flags      uint64
		want       api.Errno
	}{
		{hashSpec, nil, "key", "value", 0, api.OK},
		{hashSpec, nil, "key", "value", 1, api.OK},
		{hashSpec, nil, "key", "value", 2, api.ENOENT},
		{hashSpec, nil, "key", "value", 3, api.EINVAL},
		{hashSpec, nil, "key", "value", math.MaxUint64, api.EINVAL},
		{hashSpec, nil, "key", "value", 1 << 32, api.EINVAL},
		{hashSpec, []string{"key", "other"}, "key", "value", 0, api.OK},
		{hashSpec, []string{"key", "other"}, "key", "value", 1, api.EEXIST},
		{hashSpec, []string{"key", "other"}, "key", "value", 2, api.OK},
		{hashSpec, []string{"one", "other", "two", "other"}, "key", "value", 0, api.E2BIG},
		{arraySpec, nil, "\x01\x00\x00\x00", "abcdefgh", 0, api.OK},
		{arraySpec, nil, "\x02\x00\x00\x00", "abcdefgh", 0, api.E2BIG},
		{arraySpec, nil, "\x01\x00\x00\x00", "abcdefgh", 1, api.EEXIST},
		{lruSpec, []string{"a", "1", "b", "2"}, "c", "3", 0, api.OK},
		{prefixSpec, nil, "\x03\x00\x00\x00\xFF", "pq", 0, api.OK},
		{prefixSpec, nil, "\x09\x00\x00\x00\xFF", "pq", 0, api.EINVAL},
	} {
		m, same := newMap(t, x.spec, x.entries...), newMap(t, x.spec, x.entries...)
		if err := same.Update([]byte(x.key), []byte(x.value), x.flags); err != x.want {
			t.Fatal(x, err)
		}
		if got := value(t, update(x.key, x.value, x.flags), m); got != none(x.want) {
			t.Errorf("%+v: %d", x, got)
		}
		if m.Sum() != same.Sum() {
			t.Errorf("%+v: another map", x)
		}
		m.Freeze()
		l := update(x.key, x.value, x.flags)
		fault(t, l, len(l)-2, m)
		if m.Sum() != same.Sum() {
			t.Errorf("%+v: a frozen one is changed", x)
		}
	}
	for _, spec := range []bmap.Spec{queueSpec, stackSpec} {
		l := update("", "abcdef", 0)
		fault(t, l, len(l)-2, newMap(t, spec))
	}
}

// remove is a program that lets a key go, and tells register 0.
func remove(key string) []api.Insn {
	return program(text(-16, key), wideMap(1, 0), at(2, -16), one(call(3), exit))
}

// P20.1: delete is the map's, but of an Array, a Queue, a Stack and a frozen map.
func TestDelete(t *testing.T) {
	for _, x := range []struct {
		spec    bmap.Spec
		entries []string
		key     string
		want    api.Errno
	}{
		{hashSpec, []string{"key", "value"}, "key", api.OK},
		{hashSpec, []string{"key", "value"}, "kex", api.ENOENT},
		{lruSpec, []string{"k", "v"}, "k", api.OK},
		{lruSpec, []string{"k", "v"}, "l", api.ENOENT},
		{prefixSpec, []string{"\x04\x00\x00\x00\xA0", "pq"}, "\x04\x00\x00\x00\xAF", api.OK},
		{prefixSpec, []string{"\x04\x00\x00\x00\xA0", "pq"}, "\x05\x00\x00\x00\xAF", api.ENOENT},
		{prefixSpec, []string{"\x04\x00\x00\x00\xA0", "pq"}, "\x09\x00\x00\x00\xAF", api.EINVAL},
	} {
		m := newMap(t, x.spec, x.entries...)
		if got := value(t, remove(x.key), m); got != none(x.want) {
			t.Errorf("%+v: %d", x, got)
		}
		if left := m.Len(); (left == 0) != (x.want == api.OK) {
			t.Errorf("%+v: %d are left", x, left)
		}
		frozen := newMap(t, x.spec, x.entries...)
		frozen.Freeze()
		l := remove(x.key)
		fault(t, l, len(l)-2, frozen)
		if frozen.Len() != 1 {
			t.Errorf("%+v: a frozen one is changed", x)
		}
	}
	l := remove("\x01\x00\x00\x00")
	fault(t, l, len(l)-2, newMap(t, arraySpec))
	for _, spec := range []bmap.Spec{queueSpec, stackSpec} {
		l := remove("")
		fault(t, l, len(l)-2, newMap(t, spec, "", "abcdef"))
	}
}

// P20.1: a cell whose entry is gone can be gone on with.
func TestCellOfAnEntryThatIsGone(t *testing.T) {
	m := newMap(t, hashSpec, "key", "value")
	l := program(text(-16, "key"), wideMap(1, 0), at(2, -16), one(call(1), move(6, 0)), wideMap(1, 0), at(2, -16), one(call(3), store(1, 6, 0, 'x'), load(2, 0, 6, 0), exit))
	if got := value(t, l, m); got != 'x'|'a'<<8 || m.Len() != 0 {
		t.Error(got, m.Len())
	}
}

// push is a program that pushes a value, and tells register 0.
func push(s string, flags uint64) []api.Insn {
	return program(text(-16, s), wideMap(1, 0), at(2, -16), wide(3, flags), one(call(87), exit))
}

// P20.1: push is the map's, of a Queue or a Stack that isn't frozen.
func TestPush(t *testing.T) {
	for _, spec := range []bmap.Spec{queueSpec, stackSpec} {
		m := newMap(t, spec)
		for i, x := range []struct {
			s     string
			flags uint64
			want  api.Errno
			len   int
		}{{"abcdef", 0, api.OK, 1}, {"abcdef", 1, api.EINVAL, 1}, {"abcdef", 1 << 32, api.EINVAL, 1}, {"ghijkl", 0, api.OK, 2}, {"mnopqr", 0, api.E2BIG, 2}} {
			if got := value(t, push(x.s, x.flags), m); got != none(x.want) || m.Len() != x.len {
				t.Error(spec, i, got, m.Len())
			}
		}
		want := "abcdef"
		if spec.Type == api.Stack {
			want = "ghijkl"
		}
		if got, _ := m.Peek(); string(got) != want {
			t.Error(spec, string(got))
		}
		m.Pop()
		m.Freeze()
		l := push("abcdef", 0)
		fault(t, l, len(l)-2, m)
		if m.Len() != 1 {
			t.Error("a frozen one is changed")
		}
	}
	for _, spec := range []bmap.Spec{arraySpec, hashSpec, lruSpec, prefixSpec} {
		l := push("abcdefgh", 0)
		fault(t, l, len(l)-2, newMap(t, spec))
	}
}

// take is a program that pops or peeks into the stack, and tells register 0, and the first four bytes above it.
func take(helper int32) []api.Insn {
	return program(text(-16, "......"), wideMap(1, 0), at(2, -16), one(
		call(helper), api.Insn{Op: 0x67, Imm: 32}, load(4, 3, 10, -16), api.Insn{Op: 0x4f, Src: 3}, exit))
}

// P20.1: pop and peek are the map's; where there is no value, there are noughts.
func TestPopAndPeek(t *testing.T) {
	for _, spec := range []bmap.Spec{queueSpec, stackSpec} {
		order := []uint64{'a' | 'b'<<8 | 'c'<<16 | 'd'<<24, 'g' | 'h'<<8 | 'i'<<16 | 'j'<<24}
		if spec.Type == api.Stack {
			slices.Reverse(order)
		}
		m := newMap(t, spec, "", "abcdef", "", "ghijkl")
		for i, want := range order {
			if got := value(t, take(89), m); got != want || m.Len() != 2-i {
				t.Errorf("peek: %x, %d are left", got, m.Len())
			}
			if got := value(t, take(88), m); got != want || m.Len() != 1-i {
				t.Errorf("pop: %x, %d are left", got, m.Len())
			}
		}
		for _, helper := range []int32{88, 89} {
			if got := value(t, take(helper), m); got != none(api.ENOENT)<<32 {
				t.Errorf("%d of none: %x", helper, got)
			}
		}
		m.Freeze()
		if got := value(t, take(89), m); got != none(api.ENOENT)<<32 {
			t.Errorf("peek of none, frozen: %x", got)
		}
		frozen := newMap(t, spec, "", "abcdef")
		frozen.Freeze()
		if got := value(t, take(89), frozen); got != 'a'|'b'<<8|'c'<<16|'d'<<24 {
			t.Errorf("peek, frozen: %x", got)
		}
		l := take(88)
		fault(t, l, len(l)-5, frozen)
		if frozen.Len() != 1 {
			t.Error("a frozen one is changed")
		}
	}
	for _, spec := range []bmap.Spec{arraySpec, hashSpec, lruSpec, prefixSpec} {
		for _, helper := range []int32{88, 89} {
			l := take(helper)
			fault(t, l, len(l)-5, newMap(t, spec))
		}
	}
}

// P20.1: just as many bytes are filled as a value has, and they must be there to be written.
func TestPlaceOfPopAndPeek(t *testing.T) {
	for _, helper := range []int32{88, 89} {
		for _, empty := range []bool{false, true} {
			for place := int32(-70); place <= 0; place++ {
				m := newMap(t, queueSpec)
				if !empty {
					m.Push([]byte("abcdef"), 0)
				}
				count := m.Len()
				l := program(wideMap(1, 0), at(2, place), one(call(helper), movTo(0, 5), exit))
				if place < -64 || place > -6 {
					fault(t, l, 4, m)
					if m.Len() != count {
						t.Error("a step that can't be done has taken something away")
					}
				} else if got := value(t, l, m); got != 5 {
					t.Error(place, got)
				}
			}
		}
	}
	m := newMap(t, queueSpec, "", "abcdef")
	other := newMap(t, hashSpec, "key", "value")
	wider := newMap(t, bmap.Spec{Type: api.Hash, Key: 3, Value: 7, Entries: 1}, "key", "1234567")
	frozen := newMap(t, bmap.Spec{Type: api.Hash, Key: 3, Value: 7, Entries: 1}, "key", "1234567")
	frozen.Freeze()
	// A cell may be filled, if it has room, and its map isn't frozen; the context never.
	into := program(text(-16, "key"), wideMap(1, 1), at(2, -16), one(call(1), move(2, 0)), wideMap(1, 0), one(call(88), exit))
	fault(t, into, len(into)-2, m, other)
	fault(t, into, len(into)-2, m, frozen)
	if got := value(t, into, m, wider); got != 0 || m.Len() != 0 {
		t.Error(got)
	}
	if got, _ := wider.Lookup([]byte("key")); string(got) != "abcdef7" {
		t.Error(string(got))
	}
	fault(t, program(one(move(2, 1)), wideMap(1, 0), one(call(89), exit)), 3, m)
}

// P20.1: no bytes beside those that are filled are known.
func TestFilledBytesAlone(t *testing.T) {
	m := newMap(t, queueSpec, "", "abcdef")
	for off := int16(-64); off < 0; off++ {
		l := program(wideMap(1, 0), at(2, -16), one(call(89), load(1, 0, 10, off), exit))
		if off < -16 || off >= -10 {
			fault(t, l, 5, m)
		} else if got := value(t, l, m); got != uint64("abcdef"[off+16]) {
			t.Error(off, got)
		}
	}
}

// P20.1: register 0 has the clock, or the next random number; 0, if there are no more.
func TestClockAndRandom(t *testing.T) {
	for _, clock := range []uint64{0, 1, 1000, math.MaxUint64} {
		expect(t, one(call(5), exit), vm.World{Clock: clock, Fuel: 2}, vm.Result{Value: clock, At: 1, Steps: 2})
	}
	for count := range 6 {
		l := append(slices.Repeat(one(call(7)), count+1), exit)
		want := []uint64{8, 0, math.MaxUint64, 3, 0, 0}[count]
		expect(t, l, vm.World{Random: []uint64{8, 0, math.MaxUint64, 3}, Fuel: 99}, vm.Result{Value: want, At: count + 1, Steps: count + 2})
	}
	expect(t, one(call(7), exit), vm.World{Fuel: 2}, vm.Result{At: 1, Steps: 2})
}

// P20.1: no other helper is there.
func TestNoHelper(t *testing.T) {
	known := []int32{1, 2, 3, 5, 7, 87, 88, 89}
	for helper := int32(-300); helper < 300; helper++ {
		if !slices.Contains(known, helper) {
			expect(t, one(movTo(0, 1), call(helper), exit), vm.World{Fuel: 9}, vm.Result{At: 1, Steps: 1, Err: api.EFAULT}, helper)
		}
	}
	for _, helper := range []int32{math.MinInt32, math.MaxInt32, 256 + 5, 1<<16 + 5, -5} {
		expect(t, one(call(helper), exit), vm.World{Fuel: 9}, vm.Result{Err: api.EFAULT}, helper)
	}
}

// right is a call that can be done: with the map in register 1, and what its helper needs behind it.
func right(helper int32) (l []api.Insn, spec bmap.Spec) {
	spec = hashSpec
	if helper >= 87 {
		spec = queueSpec
	}
	l = program(text(-16, "keykeyke"), text(-32, "valueval"), wideMap(1, 0), at(2, -16), at(3, -32), one(movTo(4, 0)))
	if helper == 87 {
		l = append(l, movTo(3, 0))
	}
	return l, spec
}

// P20.1: behind a call registers 1 to 5 are nothing, the others what they were.
func TestRegistersBehindACall(t *testing.T) {
	for _, helper := range []int32{1, 2, 3, 5, 7, 87, 88, 89} {
		l, spec := right(helper)
		for _, reg := range []uint8{1, 2, 3, 4, 5, 6, 7, 8, 9} {
			m := newMap(t, spec)
			all := program(one(movTo(5, 45), movTo(6, 46), movTo(7, 47), movTo(8, 48), movTo(9, 49)), l, one(call(helper), move(0, reg), exit))
			if reg <= 5 {
				fault(t, all, len(all)-2, m)
			} else if got := value(t, all, m); got != 40+uint64(reg) {
				t.Error(helper, reg, got)
			}
		}
		all := program(l, one(call(helper), storeOf(1, 10, -1, 0), load(1, 0, 10, -1), exit))
		if got := value(t, all, newMap(t, spec)); helper == 1 && got != 0 {
			t.Error(helper, got)
		}
		all = program(l, one(call(helper), store(1, 10, -64, 6), load(1, 0, 10, -64), exit))
		if got := value(t, all, newMap(t, spec)); got != 6 {
			t.Error("register 10", helper, got)
		}
	}
}

// P20.1: what each helper needs, register by register: all kinds of values that it may have, and what comes.
func TestWhatHelpersNeed(t *testing.T) {
	const (
		aMapOf   = 'm'
		bytesIn  = 'b' // to be read
		placeFor = 'p' // to be written
		flags    = 'f'
	)
	needs := map[int32]string{1: "mb", 2: "mbbf", 3: "mb", 5: "", 7: "", 87: "mbf", 88: "mp", 89: "mp"}
	for helper, need := range needs {
		for reg := uint8(1); reg <= 5; reg++ {
			for kind := range kinds {
				l, spec := right(helper)
				m := newMap(t, spec)
				w := world(t)
				w.Maps = []*bmap.Map{m, w.Maps[0]}
				// Register 9 has a map, 8 a cell, 7 the stack, 6 the context.
				before := program(one(store(1, 10, -1, 0), move(6, 1), move(7, 10), addTo(7, -24)), at(2, -1), wideMap(1, 1), wideMap(9, 0), one(
					call(1), move(8, 0), store(8, 10, -24, 1)), l, one(movTo(0, 3)))
				from := with[kind]
				if kind == number {
					from = 0
				}
				set := move(reg, from)
				if kind == nothing {
					// What was saved over can't be loaded: only a call leaves nothing behind it. Register 5 has nothing already.
					if reg != 5 {
						continue
					}
					set = always(0)
				}
				all := program(before, one(set, call(helper), movTo(0, 7), exit))
				ok := true
				if int(reg) <= len(need) {
					switch need[reg-1] {
					case aMapOf:
						ok = kind == aMap
					case bytesIn:
						ok = kind == ofContext || kind == ofTheStack || kind == ofACell
					case placeFor:
						ok = kind == ofTheStack || kind == ofACell
					case flags:
						ok = kind == number
					}
				}
				got := vm.Run(all, w)
				if ok && (got.Value != 7 || got.Err != api.OK) || !ok && (got.Err != api.EFAULT || got.At != len(all)-3) {
					t.Errorf("helper %d, register %d, kind %d: %+v", helper, reg, kind, got)
				}
			}
		}
	}
}

// P20.1: registers that a call left with nothing don't do for the next one.
func TestCallsBehindEachOther(t *testing.T) {
	for _, helper := range []int32{1, 2, 3, 87, 88, 89} {
		l, spec := right(helper)
		set := map[uint8][]api.Insn{1: wideMap(1, 0), 2: at(2, -16), 3: at(3, -32), 4: one(movTo(4, 0))}
		count := map[int32]uint8{1: 2, 2: 4, 3: 2, 87: 3, 88: 2, 89: 2}[helper]
		if helper == 87 {
			set[3] = one(movTo(3, 0))
		}
		for missing := uint8(0); missing <= count; missing++ {
			m := newMap(t, spec)
			all := program(l, one(call(5)))
			for reg := uint8(1); reg <= count; reg++ {
				if reg != missing {
					all = program(all, set[reg])
				}
			}
			all = program(all, one(call(helper), movTo(0, 7), exit))
			if missing != 0 {
				fault(t, all, len(all)-3, m)
			} else if got := value(t, all, m); got != 7 {
				t.Error(helper, got)
			}
		}
	}
}

// P20.1: keys and values are as many bytes as the map says, all of them written as numbers.
func TestBytesOfHelpers(t *testing.T) {
	spec := bmap.Spec{Type: api.Hash, Key: 3, Value: 5, Entries: 2}
	key := func(helper int32, place int32) []api.Insn {
		return program(wideMap(1, 0), at(2, place), one(move(3, 6), movTo(4, 0), call(helper), movTo(0, 7), exit))
	}
	for _, helper := range []int32{1, 2, 3} {
		for place := int32(-66); place <= 0; place++ {
			l := program(one(move(6, 1)), text(-30, "abcdef"), text(-3, "abc"), key(helper, place))
			ok := place >= -30 && place <= -27 || place == -3
			if ok {
				if got := value(t, l, newMap(t, spec)); got != 7 {
					t.Error(helper, place, got)
				}
			} else {
				fault(t, l, len(l)-3, newMap(t, spec))
			}
		}
		// A place that was saved has no bytes.
		l := program(one(move(6, 1), store(8, 10, -8, 0), storeOf(8, 10, -8, 6)), key(helper, -8))
		fault(t, l, len(l)-3, newMap(t, spec))
	}
	for off := int32(-2); off <= 32; off++ {
		l := program(one(store(8, 10, -8, 0), move(3, 1), addTo(3, off)), wideMap(1, 0), at(2, -8), one(movTo(4, 0), call(2), movTo(0, 7), exit))
		m := newMap(t, spec)
		if off < 0 || off > 27 {
			fault(t, l, len(l)-3, m)
			continue
		}
		w := world(t)
		w.Maps[0] = m
		expect(t, l, w, vm.Result{Value: 7, At: len(l) - 1, Steps: stepsOf(l)}, off)
		want := []byte{ofCtx, ofCtx + 1, ofCtx + 2, ofCtx + 3, ofCtx + 4}
		for i := range want {
			want[i] += byte(off)
		}
		if got, _ := m.Lookup([]byte{0, 0, 0}); !bytes.Equal(got, want) {
			t.Error(off, got)
		}
	}
}
