package canon_test

import (
	"crypto/sha256"
	"encoding/binary"
	"math"
	"slices"
	"testing"

	"tipstaff/api"
	"tipstaff/canon"
	"tipstaff/digest"
	"tipstaff/insn"
)

// ofMap is a map's instruction; its Dst is there to be kept.
func ofMap(x int32) api.Insn { return api.Insn{Op: 0x18, Dst: 3, Src: 1, Imm: x} }

// program has a map's instruction, and its Second, for each number, and others between.
func program(numbers ...int32) []api.Insn {
	l := []api.Insn{{Op: 0xb7, Imm: 9}}
	for _, x := range numbers {
		l = append(l, ofMap(x), api.Insn{}, api.Insn{Op: 0x18, Imm: x}, api.Insn{Imm: x}, api.Insn{Op: 0x85, Imm: 1})
	}
	return append(l, api.Insn{Op: 0x95})
}

// P6.1: slots are given by the order in which descriptors are named first.
func TestSlots(t *testing.T) {
	for _, c := range []struct{ named, slots, fds []int32 }{
		{nil, nil, nil},
		{[]int32{5}, []int32{0}, []int32{5}},
		{[]int32{0}, []int32{0}, []int32{0}},
		{[]int32{7, 3, 7}, []int32{0, 1, 0}, []int32{7, 3}},
		{[]int32{1, 0}, []int32{0, 1}, []int32{1, 0}},
		{[]int32{3, 2, 1, 0}, []int32{0, 1, 2, 3}, []int32{3, 2, 1, 0}},
		{[]int32{4, 4, 4, 4, 4, 4}, []int32{0, 0, 0, 0, 0, 0}, []int32{4}},
		{[]int32{8, 9, 8, 6, 9, 5, 6, 8, 5}, []int32{0, 1, 0, 2, 1, 3, 2, 0, 3}, []int32{8, 9, 6, 5}},
		{[]int32{-1, math.MinInt32, math.MaxInt32, -1}, []int32{0, 1, 2, 0}, []int32{-1, math.MinInt32, math.MaxInt32}},
		{[]int32{100, 3, 2}, []int32{0, 1, 2}, []int32{100, 3, 2}},
	} {
		l, fds, err := canon.Slots(program(c.named...))
		if err != api.OK || !slices.Equal(fds, c.fds) {
			t.Errorf("descriptors %d: %d, %d, not %d", c.named, fds, err, c.fds)
		}
		if want := kept(c.named, c.slots); !slices.Equal(l, want) {
			t.Errorf("descriptors %d: %+v, not %+v", c.named, l, want)
		}
	}
}

// kept is program(named...) with slots in its maps' instructions alone.
func kept(named, slots []int32) []api.Insn {
	l := program(named...)
	for i, slot := range slots {
		l[1+5*i].Imm = slot
	}
	return l
}

// P6.1: as many maps as the limit allows, and one more; how many instructions there are is no matter.
func TestSlotsAtTheLimit(t *testing.T) {
	for _, named := range [][]int32{{1, 2, 3, 4}, {1, 2, 3, 4, 1, 2, 3, 4}, {1, 1, 1, 1, 1, 4}} {
		if _, _, err := canon.Slots(program(named...)); err != api.OK {
			t.Errorf("descriptors %d: %d", named, err)
		}
	}
	for _, named := range [][]int32{{1, 2, 3, 4, 5}, {1, 2, 1, 3, 4, 4, 9, 1}, {0, 1, 2, 3, -1}, {5, 4, 3, 2, 1, 0}} {
		if l, fds, err := canon.Slots(program(named...)); len(l) != 0 || len(fds) != 0 || err != api.E2BIG {
			t.Errorf("descriptors %d: %+v, %d, %d", named, l, fds, err)
		}
	}
	long := slices.Repeat([]api.Insn{ofMap(8), {}}, api.MaxInsns)
	if l, fds, err := canon.Slots(long); len(l) != len(long) || !slices.Equal(fds, []int32{8}) || err != api.OK {
		t.Errorf("a long program: %d instructions, %d, %d", len(l), fds, err)
	}
}

// P6.1: others than a Wide with Src 1 name no map, whatever their Src and Imm are.
func TestOthersNameNoMap(t *testing.T) {
	for op := range 256 {
		for _, src := range []uint8{0, 1, 2, 3, 10, 17, 129, 255} {
			if op == 0x18 && src == 1 {
				continue
			}
			x := api.Insn{Op: uint8(op), Dst: 1, Src: src, Off: 1, Imm: 70}
			want := []api.Insn{x, x}
			if l, fds, err := canon.Slots(want); !slices.Equal(l, want) || len(fds) != 0 || err != api.OK {
				t.Errorf("Slots of %+v: %+v, %d, %d", x, l, fds, err)
			}
			if l, err := canon.Back(want, nil); !slices.Equal(l, want) || err != api.OK {
				t.Errorf("Back of %+v: %+v, %d", x, l, err)
			}
		}
	}
}

// P6.1: a map's instruction is one wherever it stands, and keeps what else it has.
func TestMapsAreFoundAnywhere(t *testing.T) {
	odd := api.Insn{Op: 0x18, Dst: 200, Src: 1, Off: -5, Imm: 6}
	l, fds, err := canon.Slots([]api.Insn{odd, odd, ofMap(2)})
	odd.Imm = 0
	if want := []api.Insn{odd, odd, ofMap(1)}; !slices.Equal(l, want) || !slices.Equal(fds, []int32{6, 2}) || err != api.OK {
		t.Errorf("%+v, %d, %d", l, fds, err)
	}
}

// P6.1: each slot's descriptor is named again; descriptors that stand twice do so.
func TestBack(t *testing.T) {
	for _, c := range []struct{ slots, fds, want []int32 }{
		{nil, nil, nil},
		{nil, []int32{4}, nil},
		{[]int32{0, 1, 0}, []int32{7, 3}, []int32{7, 3, 7}},
		{[]int32{3, 2, 1, 0}, []int32{-1, 8, math.MinInt32, math.MaxInt32}, []int32{math.MaxInt32, math.MinInt32, 8, -1}},
		{[]int32{1}, []int32{5, 5}, []int32{5}},
		{[]int32{5, 4}, []int32{10, 11, 12, 13, 14, 15}, []int32{15, 14}},
	} {
		l, err := canon.Back(program(c.slots...), c.fds)
		if want := kept(c.slots, c.want); err != api.OK || !slices.Equal(l, want) {
			t.Errorf("slots %d of %d: %+v, %d, not %+v", c.slots, c.fds, l, err, want)
		}
	}
}

// P6.1: a slot that isn't one of those given.
func TestBackOfWrongSlots(t *testing.T) {
	for _, c := range []struct{ slots, fds []int32 }{
		{[]int32{0}, nil},
		{[]int32{0}, []int32{}},
		{[]int32{1}, []int32{9}},
		{[]int32{9}, []int32{9}},
		{[]int32{-1}, []int32{9, 8}},
		{[]int32{0, 1, 2}, []int32{9, 8}},
		{[]int32{2, 0}, []int32{9, 8}},
		{[]int32{math.MinInt32}, []int32{9, 8, 7, 6}},
		{[]int32{math.MaxInt32}, []int32{9, 8, 7, 6}},
		{[]int32{4}, []int32{9, 8, 7, 6}},
	} {
		if l, err := canon.Back(program(c.slots...), c.fds); len(l) != 0 || err != api.EINVAL {
			t.Errorf("slots %d of %d: %+v, %d", c.slots, c.fds, l, err)
		}
	}
}

// P6.1: the descriptors that are handed in have spare room, which has no slot.
func TestBackDoesNotLookIntoSpareRoom(t *testing.T) {
	fds := []int32{9, 8, 7}
	if l, err := canon.Back(program(2), fds[:2]); len(l) != 0 || err != api.EINVAL {
		t.Errorf("%+v, %d", l, err)
	}
}

// P6.1: nil and empty lists are one.
func TestNothing(t *testing.T) {
	for _, l := range [][]api.Insn{nil, {}} {
		if got, fds, err := canon.Slots(l); len(got) != 0 || len(fds) != 0 || err != api.OK {
			t.Errorf("Slots of nothing: %+v, %d, %d", got, fds, err)
		}
		if got, err := canon.Back(l, nil); len(got) != 0 || err != api.OK {
			t.Errorf("Back of nothing: %+v, %d", got, err)
		}
		for _, maps := range [][][32]byte{nil, {}} {
			if got, want := canon.Sum(l, maps), sha256.Sum256(make([]byte, 8)); got != want {
				t.Errorf("Sum of nothing: %x, not %x", got, want)
			}
		}
	}
}

// joined is digest.Joined in other words.
func joined(parts ...[]byte) [32]byte {
	var b []byte
	for _, part := range parts {
		b = append(binary.BigEndian.AppendUint64(b, uint64(len(part))), part...)
	}
	return sha256.Sum256(b)
}

// P6.1: the sum has the instructions' bytes as its first part, and each map's sum as one of its own.
func TestSum(t *testing.T) {
	l, one, two := program(1, 0), digest.Sum([]byte("one")), digest.Sum([]byte("two"))
	for _, c := range []struct {
		maps [][32]byte
		want [32]byte
	}{
		{nil, joined(insn.Encode(l))},
		{[][32]byte{one}, joined(insn.Encode(l), one[:])},
		{[][32]byte{one, two}, joined(insn.Encode(l), one[:], two[:])},
		{[][32]byte{two, one}, joined(insn.Encode(l), two[:], one[:])},
		{[][32]byte{one, one, two, {}, one}, joined(insn.Encode(l), one[:], one[:], two[:], make([]byte, 32), one[:])},
	} {
		if got := canon.Sum(l, c.maps); got != c.want {
			t.Errorf("Sum with %d maps: %x, not %x", len(c.maps), got, c.want)
		}
	}
}

// P6.1: the sum of a known program, worked out by another tool.
func TestSumOfKnownProgram(t *testing.T) {
	const want = "5bbdc2bb1ffa326b32b9c1cc206902a356772363b99ef5afb6e7aa4c59f0ff4f"
	l := []api.Insn{{Op: 0xb7, Imm: 7}, {Op: 0x95}}
	if got := digest.Hex(canon.Sum(l, [][32]byte{{1, 2, 3}})); got != want {
		t.Errorf("%s, not %s", got, want)
	}
}

// P6.1: each field of the instructions, and each map, changes the sum.
func TestSumHangsOnAll(t *testing.T) {
	x := api.Insn{Op: 0xb7, Dst: 1, Src: 2, Off: 3, Imm: 4}
	seen := map[[32]byte]bool{}
	for _, c := range []struct {
		l    []api.Insn
		maps [][32]byte
	}{
		{[]api.Insn{x}, nil},
		{[]api.Insn{{Op: 0xb4, Dst: 1, Src: 2, Off: 3, Imm: 4}}, nil},
		{[]api.Insn{{Op: 0xb7, Dst: 2, Src: 2, Off: 3, Imm: 4}}, nil},
		{[]api.Insn{{Op: 0xb7, Dst: 1, Src: 3, Off: 3, Imm: 4}}, nil},
		{[]api.Insn{{Op: 0xb7, Dst: 1, Src: 2, Off: 4, Imm: 4}}, nil},
		{[]api.Insn{{Op: 0xb7, Dst: 1, Src: 2, Off: 3, Imm: 5}}, nil},
		{[]api.Insn{x, x}, nil},
		{nil, nil},
		{[]api.Insn{x}, [][32]byte{{}}},
		{[]api.Insn{x}, [][32]byte{{}, {}}},
		{[]api.Insn{x}, [][32]byte{{1}}},
		{[]api.Insn{x}, [][32]byte{{31: 1}}},
		{[]api.Insn{x, x, x, x, x}, nil},
	} {
		s := canon.Sum(c.l, c.maps)
		if seen[s] {
			t.Errorf("the sum of %+v and %x is that of another", c.l, c.maps)
		}
		seen[s] = true
	}
}

// P6.2: instructions come back from their slots.
func TestInstructionsComeBack(t *testing.T) {
	for _, named := range [][]int32{nil, {0}, {7, 3, 7}, {3, 2, 1, 0, 1, 2, 3}, {-1, math.MinInt32, math.MaxInt32, -1, 0}} {
		l := program(named...)
		slots, fds, err := canon.Slots(l)
		if err != api.OK {
			t.Errorf("Slots of %d: %d", named, err)
		}
		if got, err := canon.Back(slots, fds); !slices.Equal(got, l) || err != api.OK {
			t.Errorf("descriptors %d don't come back: %+v, %d", named, got, err)
		}
	}
}

// P6.2: which descriptors a map has doesn't change the sum; which map is named does.
func TestSumForgetsDescriptors(t *testing.T) {
	sum := func(named ...int32) [32]byte {
		l, _, err := canon.Slots([]api.Insn{ofMap(named[0]), {}, ofMap(named[1]), {}, ofMap(named[2]), {}, {Op: 0x95}})
		if err != api.OK {
			t.Fatalf("Slots of %d: %d", named, err)
		}
		return canon.Sum(l, [][32]byte{{1}, {2}})
	}
	want := sum(7, 3, 7)
	for _, named := range [][]int32{{3, 7, 3}, {0, 1, 0}, {1, 0, 1}, {-5, math.MaxInt32, -5}} {
		if sum(named...) != want {
			t.Errorf("descriptors %d change the sum", named)
		}
	}
	for _, named := range [][]int32{{7, 3, 3}, {7, 7, 3}, {7, 7, 7}, {7, 3, 9}} {
		if sum(named...) == want {
			t.Errorf("descriptors %d have the sum of others", named)
		}
	}
}

// P6.3: neither what is handed in changes, nor its spare room.
func TestArgumentsStay(t *testing.T) {
	for _, named := range [][]int32{{9, 2, 9}, {1, 2, 3, 4, 5}, {1, 0, 1}} {
		whole := append(program(named...), slices.Repeat([]api.Insn{ofMap(77)}, 20)...)
		keptInsns := slices.Clone(whole)
		fds, maps := []int32{4, 5, 66, 66}, [][32]byte{{1}, {2}, {66}, {66}}
		l := whole[:len(program(named...))]
		canon.Slots(l)
		canon.Back(l, fds[:2])
		canon.Sum(l, maps[:2])
		if !slices.Equal(whole, keptInsns) {
			t.Errorf("the instructions of %d have changed, or what is behind them", named)
		}
		if !slices.Equal(fds, []int32{4, 5, 66, 66}) || !slices.Equal(maps, [][32]byte{{1}, {2}, {66}, {66}}) {
			t.Errorf("descriptors or sums have changed, with %d", named)
		}
	}
}

// P6.3: answers are new memory, and don't change with what was handed in.
func TestAnswersAreNew(t *testing.T) {
	for _, l := range [][]api.Insn{program(1, 0), {{Op: 0x95}}, make([]api.Insn, 0, 5)} {
		want := slices.Clone(l)
		slots, fds, _ := canon.Slots(l)
		other, otherFds, _ := canon.Slots(l)
		wantSlots, wantFds := slices.Clone(other), slices.Clone(otherFds)
		handed := slices.Clone(fds)
		back, _ := canon.Back(slots, handed)
		clear(slots[:cap(slots)])
		clear(fds[:cap(fds)])
		clear(handed)
		if !slices.Equal(l, want) || !slices.Equal(back, want) {
			t.Errorf("an answer shares memory with what is handed in: %+v", want)
		}
		clear(l[:cap(l)])
		if !slices.Equal(other, wantSlots) || !slices.Equal(otherFds, wantFds) {
			t.Errorf("answers share memory: %+v", want)
		}
	}
}
