package branch_test

import (
	"cmp"
	"math"
	"math/rand/v2"
	"slices"
	"testing"

	"tipstaff/branch"
	"tipstaff/scalar"
	"tipstaff/tnum"
)

// edges are numbers at which something turns.
var edges = []uint64{
	0, 1, 2, 3, 8, 63, 255, 256,
	math.MaxInt32 - 1, math.MaxInt32, math.MaxInt32 + 1, math.MaxUint32 - 1, math.MaxUint32, math.MaxUint32 + 1, math.MaxUint32 + 6,
	math.MaxInt64 - 1, math.MaxInt64, math.MaxInt64 + 1, math.MaxInt64 + 2, 1<<63 | 1<<31,
	math.MaxUint64 - math.MaxInt32 - 1, math.MaxUint64 - math.MaxInt32, math.MaxUint64 - 63, math.MaxUint64 - 1, math.MaxUint64,
	0x80000000_80000000, 0x00000001_FFFFFFFF, 0xFFFFFFFF_00000000,
}

var comparisons = []int{1, 2, 3, 4, 5, 6, 7, 10, 11, 12, 13}

var others = []int{math.MinInt, -1 << 32, -2, -1, 0, 8, 9, 14, 15, 16, 17, 257, 1 << 32, 1<<32 + 1, math.MaxInt}

var ops = append(append([]int{}, comparisons...), others...)

// holds is the comparison of two numbers, told otherwise: 32 bits are put to the upper end, with noughts below, so they
// have the same order, the same sign, and the same bits in common.
func holds(op int, long bool, x, y uint64) bool {
	if !long {
		x, y = x<<32, y<<32
	}
	order, orderSigned := cmp.Compare(x, y), cmp.Compare(int64(x), int64(y))
	switch op {
	case 1:
		return order == 0
	case 2:
		return order == 1
	case 3:
		return order != -1
	case 4:
		return x&y > 0
	case 5:
		return order != 0
	case 6:
		return orderSigned == 1
	case 7:
		return orderSigned != -1
	case 10:
		return order == -1
	case 11:
		return order != 1
	case 12:
		return orderSigned == -1
	case 13:
		return orderSigned != 1
	}
	return false
}

// P15.1
func TestHolds(t *testing.T) {
	chance := rand.New(rand.NewPCG(15, 1))
	for _, op := range ops {
		for _, long := range []bool{false, true} {
			look := func(x, y uint64) {
				t.Helper()
				if got := branch.Holds(op, long, x, y); got != holds(op, long, x, y) {
					t.Fatalf("Holds(%d, %v, %x, %x): %v", op, long, x, y, got)
				}
			}
			for _, x := range edges {
				for _, y := range edges {
					look(x, y)
				}
			}
			for range 300 {
				x := chance.Uint64() >> chance.IntN(64)
				look(x, chance.Uint64()>>chance.IntN(64))
				look(x, x^1<<chance.IntN(64))
				look(x, x&(1<<32-1)|chance.Uint64()<<32)
			}
		}
	}
}

// P15.1: by hand, and the document's examples.
func TestByHand(t *testing.T) {
	for _, c := range []struct {
		op   int
		long bool
		x, y uint64
		want bool
	}{
		{6, true, 0, math.MaxUint64, true}, {2, true, 0, math.MaxUint64, false},
		{1, false, 1<<32 | 5, 5, true}, {1, true, 1<<32 | 5, 5, false}, {4, false, 1 << 32, 1 << 32, false}, {4, true, 1 << 32, 1 << 32, true},
		{12, false, 1 << 31, 0, true}, {12, true, 1 << 31, 0, false}, {12, true, 1 << 63, 0, true}, {12, false, 1 << 63, 0, false},
		{0, true, 0, 0, false}, {8, true, 0, 0, false}, {9, true, 0, 0, false}, {14, true, 0, 0, false}, {15, true, 0, 0, false},
	} {
		if got := branch.Holds(c.op, c.long, c.x, c.y); got != c.want {
			t.Errorf("Holds(%d, %v, %x, %x): %v", c.op, c.long, c.x, c.y, got)
		}
	}
	if x, y, some := branch.Refine(10, true, scalar.Any(), scalar.Const(10), true); x.UMax != 9 || y != scalar.Const(10) || !some {
		t.Errorf("below 10: %+v, %+v, %v", x, y, some)
	}
}

// numbers are all that a range has: each choice of its unknown bits that lies in both bounds.
func numbers(a scalar.Range) []uint64 {
	if a.Bits.Value&a.Bits.Mask != 0 {
		return nil
	}
	var all []uint64
	for some := a.Bits.Mask; ; some = (some - 1) & a.Bits.Mask {
		if x := a.Bits.Value | some; has(a, x) {
			all = append(all, x)
		}
		if some == 0 {
			return all
		}
	}
}

// has is what the document says of a range.
func has(a scalar.Range, x uint64) bool {
	return a.Bits.Value&a.Bits.Mask == 0 && (x^a.Bits.Value)&^a.Bits.Mask == 0 &&
		x >= a.UMin && x <= a.UMax && int64(x) >= a.SMin && int64(x) <= a.SMax
}

// bounded is a range of these bits whose bounds are by chance: none, near a number of it, or anywhere.
func bounded(chance *rand.Rand, known tnum.Num) scalar.Range {
	near := func() uint64 {
		return (known.Value | known.Mask&chance.Uint64()) + chance.Uint64N(5) - 2
	}
	a := scalar.Range{Bits: known, UMax: math.MaxUint64, SMin: math.MinInt64, SMax: math.MaxInt64}
	switch chance.IntN(8) {
	case 0, 1, 2:
		x, y := near(), near()
		a.UMin, a.UMax = min(x, y), max(x, y)
	case 3:
		a.UMin = near()
	case 4:
		a.UMin, a.UMax = edges[chance.IntN(len(edges))], edges[chance.IntN(len(edges))]
	}
	switch chance.IntN(8) {
	case 0, 1, 2:
		x, y := int64(near()), int64(near())
		a.SMin, a.SMax = min(x, y), max(x, y)
	case 3:
		a.SMax = int64(near())
	case 4:
		a.SMin, a.SMax = int64(edges[chance.IntN(len(edges))]), int64(edges[chance.IntN(len(edges))])
	}
	return a
}

// few is a range by chance near x, of at most 2 to the power of unknown numbers.
func few(chance *rand.Rand, x uint64, unknown int) scalar.Range {
	var mask uint64
	tops := []int{3, 4, 8, 33, 64}
	for range chance.IntN(unknown + 1) {
		mask |= 1 << chance.IntN(tops[chance.IntN(len(tops))])
	}
	x += chance.Uint64N(9) - 4
	known := tnum.Num{Value: x &^ mask, Mask: mask}
	if chance.IntN(60) == 0 {
		known.Value |= mask
	}
	return bounded(chance, known)
}

// wide is a range by chance that may have many numbers, and some of these.
func wide(chance *rand.Rand, x uint64) (scalar.Range, []uint64) {
	x += chance.Uint64N(9) - 4
	mask := uint64(math.MaxUint64) >> chance.IntN(64)
	if chance.IntN(3) == 0 {
		mask = chance.Uint64() >> chance.IntN(64)
	}
	a := bounded(chance, tnum.Num{Value: x &^ mask, Mask: mask})
	try := []uint64{a.UMin, a.UMin + 1, a.UMax, a.UMax - 1, uint64(a.SMin), uint64(a.SMax), a.Bits.Value, a.Bits.Value | mask}
	for range 12 {
		try = append(try, a.Bits.Value|mask&chance.Uint64(), a.UMin+chance.Uint64N(max(a.UMax-a.UMin, 1)), edges[chance.IntN(len(edges))])
	}
	var some []uint64
	for _, x := range try {
		if has(a, x) {
			some = append(some, x)
		}
	}
	return a, some
}

// ends are two ranges, by which of them a comparison says to be the lesser one.
type ends struct{ lesser, greater *scalar.Range }

// told is what the document tells of how near two ranges are at least, step by step; false: it finds that there is no pair.
func told(op int, long bool, a, b scalar.Range, hold bool) (scalar.Range, scalar.Range, bool) {
	a, someA := scalar.Settle(a)
	b, someB := scalar.Settle(b)
	if !someA || !someB {
		return a, b, false
	}
	if !long {
		most := uint64(1<<32 - 1)
		switch op {
		case 6, 7, 12, 13:
			most = 1<<31 - 1
		}
		if a.UMax > most || b.UMax > most {
			return a, b, true
		}
	}
	ordered := map[int]ends{
		2: {&b, &a}, 3: {&b, &a}, 6: {&b, &a}, 7: {&b, &a}, 10: {&a, &b}, 11: {&a, &b}, 12: {&a, &b}, 13: {&a, &b},
	}
	opposites := map[int]int{2: 11, 3: 10, 6: 13, 7: 12, 10: 3, 11: 2, 12: 7, 13: 6}
	some := true
	switch {
	case op == 1 && hold || op == 5 && !hold:
		some = toldEqual(&a, &b)
	case op == 1 || op == 5:
		some = toldUnequal(&a, &b)
	case op == 4 && !hold:
		some = toldApart(&a, &b)
	case ordered[op].lesser != nil:
		if !hold {
			op = opposites[op]
		}
		some = toldOrdered(op, ordered[op])
	}
	if !some {
		return a, b, false
	}
	a, someA = scalar.Settle(a)
	b, someB = scalar.Settle(b)
	return a, b, someA && someB
}

func toldEqual(a, b *scalar.Range) bool {
	both, some := tnum.Meet(a.Bits, b.Bits)
	*a = scalar.Range{
		Bits: both, UMin: max(a.UMin, b.UMin), UMax: min(a.UMax, b.UMax), SMin: max(a.SMin, b.SMin), SMax: min(a.SMax, b.SMax),
	}
	*b = *a
	return some
}

func toldUnequal(a, b *scalar.Range) bool {
	wasA, wasB := *a, *b
	for _, one := range []struct {
		r     *scalar.Range
		other scalar.Range
	}{{a, wasB}, {b, wasA}} {
		x := one.other.UMin
		if x != one.other.UMax {
			continue
		}
		if one.r.UMin == x && one.r.UMax == x {
			return false
		}
		if one.r.UMin == x {
			one.r.UMin = x + 1
		}
		if one.r.UMax == x {
			one.r.UMax = x - 1
		}
	}
	return true
}

func toldApart(a, b *scalar.Range) bool {
	wasA, wasB := a.Bits, b.Bits
	if wasA.Value&wasB.Value != 0 {
		return false
	}
	a.Bits.Mask &^= wasB.Value
	b.Bits.Mask &^= wasA.Value
	return true
}

func toldOrdered(op int, e ends) bool {
	var by int64
	switch op {
	case 2, 6, 10, 12:
		by = 1
	}
	switch op {
	case 2, 3, 10, 11:
		if by > 0 && (e.lesser.UMin == math.MaxUint64 || e.greater.UMax == 0) {
			return false
		}
		e.greater.UMin = max(e.greater.UMin, e.lesser.UMin+uint64(by))
		e.lesser.UMax = min(e.lesser.UMax, e.greater.UMax-uint64(by))
	default:
		if by > 0 && (e.lesser.SMin == math.MaxInt64 || e.greater.SMax == math.MinInt64) {
			return false
		}
		e.greater.SMin = max(e.greater.SMin, e.lesser.SMin+by)
		e.lesser.SMax = min(e.lesser.SMax, e.greater.SMax-by)
	}
	return true
}

// look holds an answer against these numbers of both (all of them, where whole says so), and against how near it must be.
func look(t *testing.T, op int, long bool, a, b scalar.Range, hold bool, mine, theirs []uint64, whole bool) {
	t.Helper()
	x, y, some := branch.Refine(op, long, a, b, hold)
	if !some && (x != (scalar.Range{}) || y != (scalar.Range{})) {
		t.Fatalf("Refine(%d, %v, %+v, %+v, %v): nothing, but %+v, %+v", op, long, a, b, hold, x, y)
	}
	pairs := 0
	for _, m := range mine {
		for _, n := range theirs {
			if holds(op, long, m, n) != hold {
				continue
			}
			pairs++
			if !some || !has(x, m) || !has(y, n) {
				t.Fatalf("Refine(%d, %v, %+v, %+v, %v): %+v, %+v, %v, without %x and %x", op, long, a, b, hold, x, y, some, m, n)
			}
		}
	}
	if some && (!scalar.Within(x, a) || !scalar.Within(y, b)) {
		t.Fatalf("Refine(%d, %v, %+v, %+v, %v): %+v, %+v have more", op, long, a, b, hold, x, y)
	}
	if whole && len(mine) == 1 && len(theirs) == 1 && some != (pairs == 1) {
		t.Fatalf("Refine(%d, %v, %+v, %+v, %v): %v, of %x and %x", op, long, a, b, hold, some, mine[0], theirs[0])
	}
	nearA, nearB, perhaps := told(op, long, a, b, hold)
	if some && (!perhaps || !scalar.Within(x, nearA) || !scalar.Within(y, nearB)) {
		t.Fatalf("Refine(%d, %v, %+v, %+v, %v): %+v, %+v, but %+v, %+v, %v are nearer", op, long, a, b, hold, x, y, nearA, nearB, perhaps)
	}
}

// P15.1: of ranges of few numbers, all of which are looked at.
func TestRefine(t *testing.T) {
	chance := rand.New(rand.NewPCG(15, 2))
	for _, op := range ops {
		for _, long := range []bool{false, true} {
			for range 12000 {
				x := edges[chance.IntN(len(edges))]
				y := x
				if chance.IntN(3) == 0 {
					y = edges[chance.IntN(len(edges))]
				}
				a, b := few(chance, x, 4), few(chance, y, 4)
				for _, hold := range []bool{false, true} {
					look(t, op, long, a, b, hold, numbers(a), numbers(b), true)
				}
			}
		}
	}
}

// P15.1: of ranges of many numbers, some of which are looked at.
func TestRefineOfMany(t *testing.T) {
	chance := rand.New(rand.NewPCG(15, 3))
	for _, op := range ops {
		for _, long := range []bool{false, true} {
			for range 3000 {
				x := edges[chance.IntN(len(edges))]
				a, mine := wide(chance, x)
				b, theirs := wide(chance, x)
				few := few(chance, x, 2)
				for _, hold := range []bool{false, true} {
					look(t, op, long, a, b, hold, mine, theirs, false)
					look(t, op, long, a, few, hold, mine, numbers(few), false)
					look(t, op, long, few, b, hold, numbers(few), theirs, false)
				}
			}
		}
	}
}

// P15.1: of two numbers alone, however they are bounded, it is just whether they are a pair.
func TestRefineOfConsts(t *testing.T) {
	// Each of these has one number alone; to settle the last ones doesn't tell it.
	alone := func(x uint64) []scalar.Range {
		loose := scalar.Any()
		loose.Bits = tnum.Const(x)
		all := []scalar.Range{scalar.Const(x), loose}
		if x&7 == 4 {
			all = append(all, scalar.Range{Bits: tnum.Num{Value: x &^ 5, Mask: 5}, UMin: x - 2, UMax: x, SMin: math.MinInt64, SMax: math.MaxInt64})
			all = append(all, scalar.Range{Bits: tnum.Num{Value: x &^ 5, Mask: 5}, UMax: math.MaxUint64, SMin: int64(x) - 2, SMax: int64(x)})
		}
		return all
	}
	some := append([]uint64{4, 12, 1<<32 | 4, 1<<63 | 4, math.MaxUint64 - 3, 1 << 31, 1<<31 | 4}, edges...)
	for _, op := range ops {
		for _, long := range []bool{false, true} {
			for _, x := range some {
				for _, y := range some {
					for _, a := range alone(x) {
						for _, b := range alone(y) {
							for _, hold := range []bool{false, true} {
								look(t, op, long, a, b, hold, []uint64{x}, []uint64{y}, true)
							}
						}
					}
				}
			}
		}
	}
}

// P15.1: one number alone, and it is far from the other ones in the order with a sign.
func TestRefineOfOneNumberBelowNought(t *testing.T) {
	least := uint64(1) << 63
	a := scalar.Range{Bits: tnum.Num{Mask: 1<<63 | 5}, UMax: math.MaxUint64, SMin: math.MinInt64 + 2, SMax: math.MinInt64 + 4}
	look(t, 1, true, a, scalar.Const(least|4), true, []uint64{least | 4}, []uint64{least | 4}, true)
	look(t, 1, true, a, scalar.Const(least|4), false, []uint64{least | 4}, []uint64{least | 4}, true)
	last := scalar.Range{Bits: tnum.Num{Value: 1 << 63, Mask: math.MaxInt64}, UMin: math.MaxUint64, UMax: math.MaxUint64, SMin: math.MinInt64, SMax: math.MaxInt64}
	look(t, 5, true, last, scalar.Const(math.MaxUint64), true, []uint64{math.MaxUint64}, []uint64{math.MaxUint64}, true)
}

// between is a range of these bounds.
func between(leastU, mostU uint64, leastS, mostS int64) scalar.Range {
	return scalar.Range{Bits: tnum.Any(), UMin: leastU, UMax: mostU, SMin: leastS, SMax: mostS}
}

// P15.1: what each comparison tells of bounds, and of bits.
func TestRefineByHand(t *testing.T) {
	any, octet := scalar.Any(), scalar.Low(scalar.Any(), 1)
	// These go over the middle, so that bounds without a sign tell nothing of those with one, and the other way round.
	high, higher := between(1<<63-9, 1<<63+5, math.MinInt64, math.MaxInt64), between(1<<63-4, 1<<63+9, math.MinInt64, math.MaxInt64)
	low, lower := between(0, math.MaxUint64, -4, 9), between(0, math.MaxUint64, -9, 5)
	for i, c := range []struct {
		op           int
		long         bool
		a, b         scalar.Range
		holds        bool
		wantA, wantB scalar.Range
	}{
		{1, true, octet, scalar.Const(7), true, scalar.Const(7), scalar.Const(7)},
		{5, true, any, scalar.Const(7), false, scalar.Const(7), scalar.Const(7)},
		{1, true, high, higher, true, between(1<<63-4, 1<<63+5, math.MinInt64, math.MaxInt64), between(1<<63-4, 1<<63+5, math.MinInt64, math.MaxInt64)},
		{1, true, higher, high, true, between(1<<63-4, 1<<63+5, math.MinInt64, math.MaxInt64), between(1<<63-4, 1<<63+5, math.MinInt64, math.MaxInt64)},
		{1, true, low, lower, true, between(0, math.MaxUint64, -4, 5), between(0, math.MaxUint64, -4, 5)},
		{1, true, lower, low, true, between(0, math.MaxUint64, -4, 5), between(0, math.MaxUint64, -4, 5)},
		{2, true, high, higher, true, between(1<<63-3, 1<<63+5, math.MinInt64, math.MaxInt64), between(1<<63-4, 1<<63+4, math.MinInt64, math.MaxInt64)},
		{6, true, lower, low, true, between(0, math.MaxUint64, -3, 5), between(0, math.MaxUint64, -4, 4)},
		{1, true, octet, scalar.Const(0), false, between(1, 255, 1, 255), scalar.Const(0)},
		{5, true, octet, scalar.Const(255), true, between(0, 254, 0, 254), scalar.Const(255)},
		{5, true, scalar.Const(255), octet, true, scalar.Const(255), between(0, 254, 0, 254)},
		{5, true, octet, scalar.Const(7), true, octet, scalar.Const(7)},
		{2, true, octet, scalar.Const(7), true, between(8, 255, 8, 255), scalar.Const(7)},
		{2, true, octet, scalar.Const(7), false, between(0, 7, 0, 7), scalar.Const(7)},
		{2, true, any, any, true, between(1, math.MaxUint64, math.MinInt64, math.MaxInt64), between(0, math.MaxUint64-1, math.MinInt64, math.MaxInt64)},
		{3, true, octet, scalar.Const(7), true, between(7, 255, 7, 255), scalar.Const(7)},
		{3, true, octet, scalar.Const(7), false, between(0, 6, 0, 6), scalar.Const(7)},
		{10, true, octet, octet, true, between(0, 254, 0, 254), between(1, 255, 1, 255)},
		{10, true, octet, octet, false, octet, octet},
		{11, true, octet, scalar.Const(7), true, between(0, 7, 0, 7), scalar.Const(7)},
		{11, true, scalar.Const(7), octet, false, scalar.Const(7), between(0, 6, 0, 6)},
		{6, true, any, scalar.Const(7), true, between(8, math.MaxInt64, 8, math.MaxInt64), scalar.Const(7)},
		{6, true, any, scalar.Const(7), false, between(0, math.MaxUint64, math.MinInt64, 7), scalar.Const(7)},
		{7, true, any, scalar.Const(math.MaxUint64), false, between(1<<63, math.MaxUint64-1, math.MinInt64, -2), scalar.Const(math.MaxUint64)},
		{12, true, any, any, true, between(0, math.MaxUint64, math.MinInt64, math.MaxInt64-1), between(0, math.MaxUint64, math.MinInt64+1, math.MaxInt64)},
		{12, true, any, scalar.Const(0), false, between(0, math.MaxInt64, 0, math.MaxInt64), scalar.Const(0)},
		{13, true, scalar.Const(0), any, true, scalar.Const(0), between(0, math.MaxInt64, 0, math.MaxInt64)},
		{13, true, scalar.Const(0), any, false, scalar.Const(0), between(1<<63, math.MaxUint64, math.MinInt64, -1)},
		{4, true, octet, scalar.Const(0xf0), false, between(0, 15, 0, 15), scalar.Const(0xf0)},
		{4, true, scalar.Const(0xf0), octet, false, scalar.Const(0xf0), between(0, 15, 0, 15)},
		{4, true, octet, scalar.Const(0xf0), true, octet, scalar.Const(0xf0)},
		{2, false, octet, scalar.Const(7), true, between(8, 255, 8, 255), scalar.Const(7)},
		{6, false, octet, scalar.Const(7), false, between(0, 7, 0, 7), scalar.Const(7)},
		{2, false, octet, scalar.Const(math.MaxUint32 + 1), false, octet, scalar.Const(math.MaxUint32 + 1)},
		{6, false, octet, scalar.Const(math.MaxInt32 + 1), true, octet, scalar.Const(math.MaxInt32 + 1)},
		{6, false, scalar.Const(math.MaxInt32), octet, true, scalar.Const(math.MaxInt32), octet},
		{0, true, octet, octet, false, octet, octet},
		{0, true, between(3, 4, 3, math.MaxInt64), octet, false, between(3, 4, 3, 4), octet},
	} {
		x, y, some := branch.Refine(c.op, c.long, c.a, c.b, c.holds)
		wantA, _ := scalar.Settle(c.wantA)
		wantB, _ := scalar.Settle(c.wantB)
		if x != wantA || y != wantB || !some {
			t.Errorf("%d: Refine(%d, %v, %v): %+v, %+v, %v", i, c.op, c.long, c.holds, x, y, some)
		}
	}
}

// P15.1: where no pair is, and it is told.
func TestRefineOfNoPair(t *testing.T) {
	any, octet := scalar.Any(), scalar.Low(scalar.Any(), 1)
	wrong := any
	wrong.Bits = tnum.Num{Value: 1, Mask: 1}
	hidden := scalar.Range{Bits: tnum.Num{Mask: 9}, UMin: 2, UMax: 7, SMin: math.MinInt64, SMax: math.MaxInt64}
	for i, c := range []struct {
		op    int
		long  bool
		a, b  scalar.Range
		holds bool
	}{
		{2, true, any, scalar.Const(math.MaxUint64), true}, {2, true, scalar.Const(0), any, true},
		{10, true, any, scalar.Const(0), true}, {10, true, scalar.Const(math.MaxUint64), any, true},
		{3, true, any, scalar.Const(0), false}, {11, true, any, scalar.Const(math.MaxUint64), false},
		{6, true, any, scalar.Const(math.MaxInt64), true}, {6, true, scalar.Const(1 << 63), any, true},
		{12, true, any, scalar.Const(1 << 63), true}, {12, true, scalar.Const(math.MaxInt64), any, true},
		{7, true, any, scalar.Const(1 << 63), false}, {13, true, any, scalar.Const(math.MaxInt64), false},
		{1, true, octet, scalar.Const(256), true}, {5, true, octet, scalar.Const(256), false},
		{2, true, octet, scalar.Const(255), true}, {3, true, octet, scalar.Const(256), true}, {11, true, octet, scalar.Const(255), false},
		{4, true, between(8, 15, 0, 15), between(12, 13, 0, 15), false},
		{1, false, octet, scalar.Const(256), true}, {2, false, octet, scalar.Const(255), true},
		{0, true, any, any, true}, {9, false, octet, octet, true}, {-1, true, any, any, true},
		{0, true, wrong, any, false}, {0, true, any, wrong, false}, {1, true, wrong, wrong, false}, {2, false, wrong, any, true},
		{1, true, between(1, 0, 0, 1), any, true}, {1, true, any, between(0, 1, 1, 0), false}, {5, true, hidden, any, true},
	} {
		if x, y, some := branch.Refine(c.op, c.long, c.a, c.b, c.holds); some || x != (scalar.Range{}) || y != (scalar.Range{}) {
			t.Errorf("%d: Refine(%d, %v, %v): %+v, %+v, %v", i, c.op, c.long, c.holds, x, y, some)
		}
	}
}

// P15.2: what is handed in stays, and a call answers the same again.
func TestUnchanged(t *testing.T) {
	chance := rand.New(rand.NewPCG(15, 4))
	for range 2000 {
		x := edges[chance.IntN(len(edges))]
		all := []scalar.Range{few(chance, x, 4), few(chance, x, 4)}
		was := slices.Clone(all)
		type answers struct {
			a, b scalar.Range
			some bool
		}
		var got [2]answers
		op, long, hold := comparisons[chance.IntN(len(comparisons))], chance.IntN(2) == 0, chance.IntN(2) == 0
		for i := range got {
			got[i].a, got[i].b, got[i].some = branch.Refine(op, long, all[0], all[1], hold)
		}
		if !slices.Equal(all, was) || got[0] != got[1] {
			t.Fatalf("%+v were %+v; %+v", all, was, got)
		}
	}
}
