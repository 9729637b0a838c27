package scalar_test

import (
	"math"
	"math/big"
	"math/rand/v2"
	"slices"
	"testing"

	"tipstaff/scalar"
	"tipstaff/tnum"
)

// edges are numbers at which something turns.
var edges = []uint64{
	0, 1, 2, 3, 7, 31, 32, 33, 63, 64, 65, 127, 128, 255, 256, 65535, 65536,
	math.MaxInt32 - 1, math.MaxInt32, math.MaxInt32 + 1, math.MaxUint32 - 1, math.MaxUint32, math.MaxUint32 + 1, math.MaxUint32 + 6,
	math.MaxInt64 - 1, math.MaxInt64, math.MaxInt64 + 1, math.MaxInt64 + 2, 1<<63 | 1<<31,
	math.MaxUint64 - math.MaxInt32 - 1, math.MaxUint64 - math.MaxInt32, math.MaxUint64 - 63, math.MaxUint64 - 1, math.MaxUint64,
	0x80000000_80000000, 0xA5A5A5A5_5A5A5A5A, 0x00000001_FFFFFFFF, 0xFFFFFFFF_00000000,
}

var ops = []int{math.MinInt, -1 << 32, -3, -2, -1, 0, 1, 2, 3, 4, 5, 6, 7, 8, 9, 10, 11, 12, 13, 14, 15, 16, 17, 255, 1 << 8, 1 << 32, 1<<32 + 3, math.MaxInt}

// reckon is what an operation makes of two numbers, told with numbers of any length.
func reckon(op int, long bool, x, y uint64) uint64 {
	width := uint(64)
	if !long {
		width = 32
	}
	modulus := new(big.Int).Lsh(big.NewInt(1), width)
	a := new(big.Int).Mod(new(big.Int).SetUint64(x), modulus)
	b := new(big.Int).Mod(new(big.Int).SetUint64(y), modulus)
	by := uint(new(big.Int).Mod(b, big.NewInt(int64(width))).Uint64())
	c := new(big.Int)
	switch op {
	case 0:
		c.Add(a, b)
	case 1:
		c.Sub(a, b)
	case 2:
		c.Mul(a, b)
	case 3:
		if b.Sign() != 0 {
			c.Div(a, b)
		}
	case 4:
		c.Or(a, b)
	case 5:
		c.And(a, b)
	case 6:
		c.Lsh(a, by)
	case 7:
		c.Rsh(a, by)
	case 8:
		c.Neg(a)
	case 9:
		c.Set(a)
		if b.Sign() != 0 {
			c.Mod(a, b)
		}
	case 10:
		c.Xor(a, b)
	case 11:
		c.Set(b)
	case 12:
		if a.Bit(int(width)-1) == 1 {
			a.Sub(a, modulus)
		}
		c.Rsh(a, by)
	}
	return c.Mod(c, modulus).Uint64()
}

// P14.1
func TestEval(t *testing.T) {
	look := func(op int, long bool, x, y uint64) {
		t.Helper()
		if got, want := scalar.Eval(op, long, x, y), reckon(op, long, x, y); got != want {
			t.Fatalf("Eval(%d, %v, %x, %x): %x, not %x", op, long, x, y, got, want)
		}
	}
	chance := rand.New(rand.NewPCG(14, 1))
	for _, op := range ops {
		for _, long := range []bool{false, true} {
			for _, x := range edges {
				for _, y := range edges {
					look(op, long, x, y)
				}
			}
			for range 500 {
				look(op, long, chance.Uint64()>>chance.IntN(64), chance.Uint64()>>chance.IntN(64))
			}
		}
	}
}

// P14.1: the document's examples, and by hand.
func TestEvalByHand(t *testing.T) {
	for _, c := range []struct {
		op         int
		long       bool
		x, y, want uint64
	}{
		{3, true, 7, 0, 0}, {9, true, 7, 0, 7}, {12, false, 0x80000000, 4, 0xF8000000},
		{3, false, 7, 1 << 32, 0}, {9, false, 1<<32 | 7, 1 << 32, 7}, {3, true, 7, 2, 3}, {9, true, 7, 4, 3},
		{6, true, 1, 64, 1}, {6, false, 1, 32, 1}, {6, false, 1, 63, 1 << 31}, {7, true, 1 << 63, 63, 1}, {7, false, 1 << 31, 63, 1},
		{12, true, 1 << 63, 1, 3 << 62}, {12, true, 1<<63 | 1, 64, 1<<63 | 1}, {12, false, 1 << 63, 1, 0}, {12, false, 1 << 31, 32, 1 << 31},
		{8, true, 1, 99, math.MaxUint64}, {8, false, 1 << 32, 0, 0}, {8, true, 1 << 63, 0, 1 << 63},
		{11, true, 5, math.MaxUint64, math.MaxUint64}, {11, false, 5, math.MaxUint64, math.MaxUint32},
		{13, true, 5, 6, 0}, {-1, true, 5, 6, 0}, {13, false, 5, 6, 0},
	} {
		if got := scalar.Eval(c.op, c.long, c.x, c.y); got != c.want {
			t.Errorf("Eval(%d, %v, %x, %x): %x, not %x", c.op, c.long, c.x, c.y, got, c.want)
		}
	}
}

// numbers are all that a range has: each choice of its unknown bits that lies in both bounds.
func numbers(a scalar.Range) []uint64 {
	if a.Bits.Value&a.Bits.Mask != 0 {
		return nil
	}
	var all []uint64
	for some := a.Bits.Mask; ; some = (some - 1) & a.Bits.Mask {
		x := a.Bits.Value | some
		if x >= a.UMin && x <= a.UMax && int64(x) >= a.SMin && int64(x) <= a.SMax {
			all = append(all, x)
		}
		if some == 0 {
			return all
		}
	}
}

// bounded is a range of these bits whose bounds are by chance: none, near a number of it, or anywhere.
func bounded(chance *rand.Rand, known tnum.Num) scalar.Range {
	near := func() uint64 {
		return (known.Value | known.Mask&chance.Uint64()) + chance.Uint64N(5) - 2
	}
	a := scalar.Range{Bits: known, UMax: math.MaxUint64, SMin: math.MinInt64, SMax: math.MaxInt64}
	switch chance.IntN(8) {
	case 0, 1, 2:
		x, y := near(), near()
		a.UMin, a.UMax = min(x, y), max(x, y)
	case 3:
		a.UMin, a.UMax = near(), near()
	case 4:
		a.UMin = near()
	case 5:
		a.UMin, a.UMax = edges[chance.IntN(len(edges))], edges[chance.IntN(len(edges))]
	}
	switch chance.IntN(8) {
	case 0, 1, 2:
		x, y := int64(near()), int64(near())
		a.SMin, a.SMax = min(x, y), max(x, y)
	case 3:
		a.SMin, a.SMax = int64(near()), int64(near())
	case 4:
		a.SMax = int64(near())
	case 5:
		a.SMin, a.SMax = int64(edges[chance.IntN(len(edges))]), int64(edges[chance.IntN(len(edges))])
	}
	return a
}

// few is a range by chance, of at most 2 to the power of unknown numbers.
func few(chance *rand.Rand, unknown int) scalar.Range {
	var mask uint64
	tops := []int{4, 8, 33, 64}
	for range chance.IntN(unknown + 1) {
		mask |= 1 << chance.IntN(tops[chance.IntN(len(tops))])
	}
	x := edges[chance.IntN(len(edges))] + chance.Uint64N(9) - 4
	if chance.IntN(4) == 0 {
		x = chance.Uint64() >> chance.IntN(64)
	}
	known := tnum.Num{Value: x &^ mask, Mask: mask}
	if chance.IntN(40) == 0 {
		known.Value |= mask
	}
	return bounded(chance, known)
}

// wide is a range by chance that may have many numbers, and some of these.
func wide(chance *rand.Rand) (scalar.Range, []uint64) {
	x := edges[chance.IntN(len(edges))] + chance.Uint64N(9) - 4
	mask := chance.Uint64() >> chance.IntN(64)
	if chance.IntN(2) == 0 {
		mask = math.MaxUint64 >> chance.IntN(64)
	}
	a := bounded(chance, tnum.Num{Value: x &^ mask, Mask: mask})
	var some []uint64
	try := []uint64{a.UMin, a.UMin + 1, a.UMax, a.UMax - 1, uint64(a.SMin), uint64(a.SMax), a.Bits.Value, a.Bits.Value | mask}
	for range 20 {
		try = append(try, a.Bits.Value|mask&chance.Uint64(), a.UMin+chance.Uint64N(max(a.UMax-a.UMin, 1)), chance.Uint64()>>chance.IntN(64))
	}
	for _, x := range try {
		if has(a, x) {
			some = append(some, x)
		}
	}
	return a, some
}

// has is what the document says of a range.
func has(a scalar.Range, x uint64) bool {
	return a.Bits.Value&a.Bits.Mask == 0 && (x^a.Bits.Value)&^a.Bits.Mask == 0 &&
		x >= a.UMin && x <= a.UMax && int64(x) >= a.SMin && int64(x) <= a.SMax
}

// P14.1
func TestConstAndAny(t *testing.T) {
	for _, x := range edges {
		want := scalar.Range{Bits: tnum.Num{Value: x}, UMin: x, UMax: x, SMin: int64(x), SMax: int64(x)}
		if got := scalar.Const(x); got != want {
			t.Errorf("Const(%x): %+v", x, got)
		}
		if !scalar.Has(scalar.Any(), x) || !scalar.Has(scalar.Const(x), x) || scalar.Has(scalar.Const(x), x+1) {
			t.Errorf("Has of %x", x)
		}
	}
	want := scalar.Range{Bits: tnum.Num{Mask: math.MaxUint64}, UMax: math.MaxUint64, SMin: math.MinInt64, SMax: math.MaxInt64}
	if got := scalar.Any(); got != want {
		t.Errorf("Any: %+v", got)
	}
}

// P14.1: each part of a range keeps numbers out.
func TestHas(t *testing.T) {
	for _, c := range []struct {
		change func(*scalar.Range)
		gone   uint64
	}{
		{func(a *scalar.Range) { a.Bits.Mask &^= 4 }, 4},
		{func(a *scalar.Range) { a.UMin = 4 }, 3},
		{func(a *scalar.Range) { a.UMax = 4 }, 5},
		{func(a *scalar.Range) { a.SMin = 4 }, 3},
		{func(a *scalar.Range) { a.SMin = -4 }, math.MaxUint64 - 4},
		{func(a *scalar.Range) { a.SMax = 4 }, 5},
		{func(a *scalar.Range) { a.SMax = -4 }, math.MaxUint64 - 2},
		{func(a *scalar.Range) { a.Bits.Value = 1 }, 1},
	} {
		a := scalar.Any()
		c.change(&a)
		if !scalar.Has(scalar.Any(), c.gone) || scalar.Has(a, c.gone) {
			t.Errorf("Has(%+v, %x)", a, c.gone)
		}
	}
	chance := rand.New(rand.NewPCG(14, 2))
	for range 20000 {
		a := few(chance, 4)
		for _, x := range []uint64{a.UMin, a.UMax, uint64(a.SMin), uint64(a.SMax), a.UMax + 1, a.Bits.Value, a.Bits.Value | a.Bits.Mask} {
			if got := scalar.Has(a, x); got != has(a, x) {
				t.Fatalf("Has(%+v, %x): %v", a, x, got)
			}
		}
	}
}

// P14.1
func TestWithin(t *testing.T) {
	chance := rand.New(rand.NewPCG(14, 3))
	for range 30000 {
		a := few(chance, 4)
		b := a
		for range chance.IntN(3) {
			other := few(chance, 4)
			switch chance.IntN(5) {
			case 0:
				b.Bits = tnum.Join(b.Bits, other.Bits)
			case 1:
				b.UMin += chance.Uint64N(3) - 1
			case 2:
				b.UMax += chance.Uint64N(3) - 1
			case 3:
				b.SMin += chance.Int64N(3) - 1
			case 4:
				b.SMax += chance.Int64N(3) - 1
			}
		}
		for range 2 {
			want := tnum.Within(a.Bits, b.Bits) && a.UMin >= b.UMin && a.UMax <= b.UMax && a.SMin >= b.SMin && a.SMax <= b.SMax
			if got := scalar.Within(a, b); got != want {
				t.Fatalf("Within(%+v, %+v): %v", a, b, got)
			}
			a, b = b, a
		}
		if !scalar.Within(a, a) || a.Bits.Value&a.Bits.Mask == 0 && !scalar.Within(a, scalar.Any()) {
			t.Fatalf("Within of %+v", a)
		}
	}
	// A bound that is looser is so, whether or not it lets a number in.
	a := scalar.Const(5)
	a.SMax = 6
	if scalar.Within(a, scalar.Const(5)) || !scalar.Within(scalar.Const(5), a) {
		t.Error("a looser bound")
	}
	a = scalar.Const(5)
	a.Bits.Mask = 2
	if scalar.Within(a, scalar.Const(5)) || !scalar.Within(scalar.Const(5), a) {
		t.Error("a looser bit")
	}
}

// P14.1
func TestJoin(t *testing.T) {
	chance := rand.New(rand.NewPCG(14, 4))
	for range 20000 {
		a, b := few(chance, 4), few(chance, 4)
		want := scalar.Range{
			Bits: tnum.Join(a.Bits, b.Bits),
			UMin: min(a.UMin, b.UMin), UMax: max(a.UMax, b.UMax), SMin: min(a.SMin, b.SMin), SMax: max(a.SMax, b.SMax),
		}
		got := scalar.Join(a, b)
		if got != want {
			t.Fatalf("Join(%+v, %+v): %+v", a, b, got)
		}
		for _, x := range append(numbers(a), numbers(b)...) {
			if !has(got, x) {
				t.Fatalf("Join(%+v, %+v): %+v hasn't %x", a, b, got, x)
			}
		}
	}
}

// P14.1: of 1, 2 and 4 bytes; of all other counts all 8.
func TestLow(t *testing.T) {
	chance := rand.New(rand.NewPCG(14, 5))
	look := func(a scalar.Range, mine []uint64, bytes int) {
		t.Helper()
		most := uint64(math.MaxUint64)
		switch bytes {
		case 1, 2, 4:
			most >>= 64 - 8*bytes
		}
		got := scalar.Low(a, bytes)
		if got.UMax > most {
			t.Fatalf("Low(%+v, %d): %+v", a, bytes, got)
		}
		for _, x := range mine {
			if !has(got, x&most) {
				t.Fatalf("Low(%+v, %d): %+v hasn't %x", a, bytes, got, x&most)
			}
		}
	}
	for _, bytes := range []int{math.MinInt, -1, 0, 1, 2, 3, 4, 5, 7, 8, 9, 16, 32, 64, 257, 1<<32 + 1, math.MaxInt} {
		for range 3000 {
			a := few(chance, 5)
			look(a, numbers(a), bytes)
			a, some := wide(chance)
			look(a, some, bytes)
		}
		look(scalar.Range{Bits: tnum.Num{Value: 1, Mask: 1}, UMax: math.MaxUint64}, nil, bytes)
		look(scalar.Range{UMin: math.MaxUint64, UMax: math.MaxUint64 - 1}, nil, bytes)
		look(scalar.Range{Bits: tnum.Num{Value: 0x100, Mask: 9}, UMin: 0x102, UMax: 0x107, SMax: 0x107}, nil, bytes)
	}
	for _, x := range edges {
		for bytes, keep := range map[int]uint64{1: 0xff, 2: 0xffff, 4: 0xffffffff, 8: math.MaxUint64, 3: math.MaxUint64} {
			if got := scalar.Low(scalar.Const(x), bytes); got != scalar.Const(x&keep) {
				t.Errorf("Low(%x, %d): %+v", x, bytes, got)
			}
		}
	}
}

// span is from x to y, settled.
func span(x, y uint64) scalar.Range {
	a := scalar.Any()
	a.UMin, a.UMax = x, y
	a, _ = scalar.Settle(a)
	return a
}

// signed is from x to y with a sign, settled.
func signed(x, y int64) scalar.Range {
	a := scalar.Any()
	a.SMin, a.SMax = x, y
	a, _ = scalar.Settle(a)
	return a
}

// P14.1: what is known of lower bytes is told.
func TestLowIsNear(t *testing.T) {
	for _, c := range []struct {
		got, want scalar.Range
	}{
		{scalar.Low(scalar.Any(), 1), span(0, 255)},
		{scalar.Low(scalar.Any(), 2), span(0, 65535)},
		{scalar.Low(scalar.Any(), 4), span(0, math.MaxUint32)},
		{scalar.Low(span(3, 200), 1), span(3, 200)},
		{scalar.Low(span(0x303, 0x3fe), 1), span(3, 254)},
		{scalar.Low(span(0x303, 0x403), 1), span(0, 255)},
		{scalar.Low(signed(-3, -1), 4), span(math.MaxUint32-2, math.MaxUint32)},
		{scalar.Low(signed(-3, 1), 4), span(0, math.MaxUint32)},
	} {
		if got, want := c.got, c.want; got != want {
			t.Errorf("%+v, not %+v", got, want)
		}
	}
}

// P14.1: each number of a and each of b.
func TestDo(t *testing.T) {
	chance := rand.New(rand.NewPCG(14, 6))
	look := func(op int, long bool, a, b scalar.Range, mine, others []uint64) {
		t.Helper()
		got := scalar.Do(op, long, a, b)
		if !long && got.UMax > math.MaxUint32 {
			t.Fatalf("Do(%d, %v, %+v, %+v): %+v", op, long, a, b, got)
		}
		for _, x := range mine {
			for _, y := range others {
				if z := scalar.Eval(op, long, x, y); !has(got, z) {
					t.Fatalf("Do(%d, %v, %+v, %+v): %+v hasn't %x of %x and %x", op, long, a, b, got, z, x, y)
				}
			}
		}
	}
	small := []scalar.Range{span(0, 3), span(30, 34), span(60, 66), signed(-3, 3), span(0, 64), scalar.Const(32), scalar.Const(63), scalar.Const(0), scalar.Const(8)}
	for _, op := range ops {
		for _, long := range []bool{false, true} {
			for range 3000 {
				a, b := few(chance, 4), few(chance, 4)
				look(op, long, a, b, numbers(a), numbers(b))
			}
			for range 1000 {
				a, mine := wide(chance)
				b, others := wide(chance)
				look(op, long, a, b, mine, others)
				b = small[chance.IntN(len(small))]
				others = nil
				for x := uint64(0); x < 140; x++ {
					if y := x - 4; has(b, y) {
						others = append(others, y)
					}
				}
				look(op, long, a, b, mine, others)
				look(op, long, b, a, others, mine)
			}
		}
	}
}

// alone are ranges of one number: of one alone, and of ones where it is told by bits, or by bounds.
func alone(x uint64) []scalar.Range {
	all := []scalar.Range{scalar.Const(x), scalar.Any(), scalar.Any(), scalar.Any()}
	all[1].Bits = tnum.Const(x)
	all[2].UMin, all[2].UMax = x, x
	all[3].SMin, all[3].SMax = int64(x), int64(x)
	return all
}

// P14.1: of two numbers alone just that one.
func TestDoOfConsts(t *testing.T) {
	for _, op := range ops {
		for _, long := range []bool{false, true} {
			for _, x := range edges {
				for _, y := range edges {
					want := scalar.Const(reckon(op, long, x, y))
					for _, a := range alone(x) {
						for _, b := range alone(y) {
							if got := scalar.Do(op, long, a, b); got != want {
								t.Fatalf("Do(%d, %v, %+v, %+v): %+v", op, long, a, b, got)
							}
						}
					}
				}
			}
		}
	}
}

// P14.1: of ranges that have no number, or aren't right; none panics.
func TestDoOfNothing(t *testing.T) {
	nothing := []scalar.Range{
		{Bits: tnum.Num{Value: 1, Mask: 1}, UMax: 1, SMax: 1},
		{Bits: tnum.Any(), UMin: 5, SMin: math.MinInt64, SMax: math.MaxInt64},
		{Bits: tnum.Any(), UMin: 1, UMax: 0, SMin: 1, SMax: 0},
		{Bits: tnum.Any(), UMax: math.MaxUint64, SMin: math.MaxInt64, SMax: math.MinInt64},
		{Bits: tnum.Const(0), UMin: 1, UMax: math.MaxUint64, SMin: math.MinInt64, SMax: math.MaxInt64},
		// No number of these bits is in the bounds, but to settle it once doesn't tell.
		{Bits: tnum.Num{Value: 0x100, Mask: 9}, UMin: 0x102, UMax: 0x107, SMin: math.MinInt64, SMax: math.MaxInt64},
		{Bits: tnum.Num{Mask: 9}, UMin: 2, UMax: 7, SMin: math.MinInt64, SMax: math.MaxInt64},
	}
	others := append([]scalar.Range{scalar.Any(), scalar.Const(0), scalar.Const(5), {}, span(0, 255)}, nothing...)
	for _, op := range ops {
		for _, long := range []bool{false, true} {
			for _, a := range nothing {
				for _, b := range others {
					x, y := scalar.Do(op, long, a, b), scalar.Do(op, long, b, a)
					if !long && max(x.UMax, y.UMax) > math.MaxUint32 {
						t.Fatalf("Do(%d, %v) of %+v and %+v", op, long, a, b)
					}
				}
			}
		}
	}
}

// with is a range of which these bits alone may be 1.
func with(mask uint64) scalar.Range {
	a := scalar.Any()
	a.Bits = tnum.Num{Mask: mask}
	a, _ = scalar.Settle(a)
	return a
}

// ends is a range of these bounds.
func ends(leastU, mostU uint64, leastS, mostS int64) scalar.Range {
	return scalar.Range{Bits: tnum.Any(), UMin: leastU, UMax: mostU, SMin: leastS, SMax: mostS}
}

// P14.1: bounds that a check can rely on; a number alone at one side, or bounds at both.
func TestDoIsNear(t *testing.T) {
	any, short := scalar.Any(), span(0, math.MaxUint32)
	for i, c := range []struct {
		op   int
		long bool
		a, b scalar.Range
		want scalar.Range
	}{
		{0, true, span(0, 255), scalar.Const(10), span(10, 265)},
		{0, true, signed(-3, 5), signed(-2, 7), signed(-5, 12)},
		{0, true, span(0, 5), scalar.Const(math.MaxUint64), signed(-1, 4)},
		{0, true, span(math.MaxUint64-5, math.MaxUint64), scalar.Const(6), span(0, 5)},
		{0, true, any, any, any},
		{0, true, span(1<<63-5, 1<<63+5), span(3, 7), ends(1<<63-2, 1<<63+12, math.MinInt64, math.MaxInt64)},
		{0, true, span(1<<63-5, 1<<63+5), span(1<<63-5, 1<<63+5), signed(-10, 10)},
		{0, false, span(0, 255), scalar.Const(10), span(10, 265)},
		{0, false, span(0, 255), scalar.Const(math.MaxUint32), short},
		{1, true, span(10, 20), span(1, 3), span(7, 19)},
		{1, true, span(0, 5), scalar.Const(1), signed(-1, 4)},
		{1, true, span(1<<63-5, 1<<63+5), span(3, 7), ends(1<<63-12, 1<<63+2, math.MinInt64, math.MaxInt64)},
		{1, true, signed(math.MinInt64, 0), scalar.Const(1), ends(math.MaxInt64, math.MaxUint64, math.MinInt64, math.MaxInt64)},
		{1, false, span(10, 20), span(1, 3), span(7, 19)},
		{1, false, span(0, 5), scalar.Const(6), span(math.MaxUint32-5, math.MaxUint32)},
		{2, true, span(2, 5), span(3, 7), span(6, 35)},
		{2, true, signed(-2, 5), signed(-3, 7), signed(-15, 35)},
		{2, true, signed(-2, 5), signed(-30, 7), signed(-150, 60)},
		{2, true, signed(-20, 5), signed(-3, 7), signed(-140, 60)},
		{2, true, signed(-50, 5), signed(-3, 1), signed(-50, 150)},
		{2, true, span(2, 1<<32), span(3, math.MaxUint32), ends(6, math.MaxUint32<<32, math.MinInt64, math.MaxInt64)},
		{2, true, span(2, 1<<32), span(3, 1<<32), any},
		{2, true, signed(-1, math.MaxInt32+1), signed(-1, 1), any},
		{2, true, signed(-1, 1), signed(math.MinInt32-1, 0), any},
		{2, true, signed(-1, 1), signed(math.MinInt32, math.MaxInt32), signed(math.MinInt32, -math.MinInt32)},
		{2, false, span(0, 16), scalar.Const(4), span(0, 64)},
		{3, true, span(10, 100), span(2, 5), span(2, 50)},
		{3, true, span(10, 100), span(0, 5), span(0, 100)},
		{3, true, span(10, 100), span(1, 5), span(2, 100)},
		{3, true, span(1<<63, math.MaxUint64), span(1, 1<<63), ends(1, math.MaxUint64, math.MinInt64, math.MaxInt64)},
		{3, true, any, scalar.Const(0), scalar.Const(0)},
		{3, true, any, scalar.Const(2), span(0, math.MaxInt64)},
		{3, false, any, scalar.Const(16), span(0, math.MaxUint32>>4)},
		{4, true, span(8, 15), span(0, 3), span(8, 15)},
		{4, true, span(9, 20), span(0, 3), span(9, 31)},
		{4, true, span(0, 3), span(9, 20), span(9, 31)},
		{4, true, signed(-4, 3), signed(-2, 1), signed(-4, 3)},
		{5, true, any, scalar.Const(7), span(0, 7)},
		{5, true, span(0, 5), span(0, 12), span(0, 5)},
		{5, true, span(0, 12), span(0, 5), span(0, 5)},
		{5, true, signed(-5, 5), signed(-3, 3), signed(-8, 7)},
		{5, false, any, scalar.Const(0xffff), span(0, 0xffff)},
		{6, true, span(1, 5), scalar.Const(60), span(1<<60, 5<<60)},
		{6, true, span(1, 5), scalar.Const(61), ends(1<<61, 5<<61, math.MinInt64, math.MaxInt64)},
		{6, true, span(1, 5), scalar.Const(62), ends(0, 3<<62, math.MinInt64, math.MaxInt64)},
		{6, true, signed(-4, 3), scalar.Const(1), ends(0, math.MaxUint64-1, -8, 6)},
		{6, true, signed(-4, 3), scalar.Const(61), ends(0, 7<<61, math.MinInt64, 3<<61)},
		{6, true, signed(-4, 4), scalar.Const(61), ends(0, 7<<61, math.MinInt64, math.MaxInt64)},
		{6, true, signed(-5, 3), scalar.Const(61), ends(0, 7<<61, math.MinInt64, math.MaxInt64)},
		{6, true, scalar.Const(1), span(0, 5), span(1, 32)},
		{6, true, scalar.Const(1), span(64, 69), span(1, 32)},
		{6, true, scalar.Const(1), with(6), span(1, 64)},
		{6, true, scalar.Const(1), span(62, 65), ends(1, 1<<63, math.MinInt64, 1<<62)},
		{6, false, scalar.Const(1), span(31, 32), span(1, 1<<31)},
		{7, true, span(64, 255), scalar.Const(3), span(8, 31)},
		{7, true, any, scalar.Const(60), span(0, 15)},
		{7, true, any, span(60, 62), span(0, 15)},
		{7, true, signed(-5, 5), scalar.Const(64), signed(-5, 5)},
		{7, false, any, scalar.Const(28), span(0, 15)},
		{8, true, span(1, 5), any, signed(-5, -1)},
		{8, true, signed(-5, 5), any, signed(-5, 5)},
		{8, true, scalar.Const(5), any, signed(-5, -5)},
		{8, false, span(1, 5), any, span(math.MaxUint32-4, math.MaxUint32)},
		{9, true, any, scalar.Const(10), span(0, 9)},
		{9, true, any, span(5, 10), span(0, 9)},
		{9, true, any, span(1, 5), span(0, 4)},
		{9, true, any, span(1, 1<<63), span(0, math.MaxInt64)},
		{9, true, span(3, 7), span(8, 9), span(3, 7)},
		{9, true, span(3, 7), span(7, 9), span(0, 7)},
		{9, true, span(3, 7), span(0, 2), span(0, 7)},
		{9, true, span(3, 7), scalar.Const(0), span(3, 7)},
		{9, false, any, scalar.Const(16), span(0, 15)},
		{10, true, span(0, 7), span(0, 3), span(0, 7)},
		{10, true, signed(-4, 3), signed(-1, 0), signed(-4, 3)},
		{11, true, any, span(3, 7), span(3, 7)},
		{11, false, any, span(1<<32+3, 1<<32+7), span(3, 7)},
		{12, true, signed(-64, 63), scalar.Const(3), signed(-8, 7)},
		{12, true, any, scalar.Const(60), signed(-8, 7)},
		{12, true, signed(-64, -1), span(2, 3), signed(-16, -1)},
		{12, false, span(1<<31, math.MaxUint32), scalar.Const(28), span(math.MaxUint32-7, math.MaxUint32)},
		{12, false, span(0, 255), scalar.Const(4), span(0, 15)},
		{12, false, span(0, 255), span(32, 36), span(0, 255)},
		{13, true, any, any, scalar.Const(0)},
		{-1, false, any, any, scalar.Const(0)},
	} {
		got := scalar.Do(c.op, c.long, c.a, c.b)
		if got.UMin != c.want.UMin || got.UMax != c.want.UMax || got.SMin != c.want.SMin || got.SMax != c.want.SMax {
			t.Errorf("%d: Do(%d, %v): %+v, not %+v", i, c.op, c.long, got, c.want)
		}
	}
	for _, c := range []struct {
		op   int
		a, b scalar.Range
		want tnum.Num
	}{
		{0, with(12), scalar.Const(1), tnum.Num{Value: 1, Mask: 12}},
		{1, with(12), scalar.Const(0), tnum.Num{Mask: 12}},
		{2, any, scalar.Const(8), tnum.Num{Mask: math.MaxUint64 - 7}},
		{4, any, scalar.Const(1), tnum.Num{Value: 1, Mask: math.MaxUint64 - 1}},
		{5, any, scalar.Const(0xf0), tnum.Num{Mask: 0xf0}},
		{6, any, scalar.Const(3), tnum.Num{Mask: math.MaxUint64 - 7}},
		{7, with(0xf0), scalar.Const(4), tnum.Num{Mask: 0xf}},
		{10, with(12), scalar.Const(4), tnum.Num{Mask: 12}},
		{12, with(0xf0), scalar.Const(3), tnum.Num{Mask: 0x1e}},
		{12, with(1 << 63), scalar.Const(62), tnum.Num{Mask: math.MaxUint64 - 1}},
	} {
		if got := scalar.Do(c.op, true, c.a, c.b).Bits; got != c.want {
			t.Errorf("Do(%d): %x, not %x", c.op, got, c.want)
		}
	}
}

// settled is what the document tells, step by step, with numbers of any length.
func settled(a scalar.Range) (scalar.Range, bool) {
	if a.Bits.Value&a.Bits.Mask != 0 || a.UMin > a.UMax || a.SMin > a.SMax {
		return scalar.Range{}, false
	}
	if least := a.Bits.Value; least > a.UMin {
		a.UMin = least
	}
	if most := a.Bits.Value | a.Bits.Mask; most < a.UMax {
		a.UMax = most
	}
	wrong := a.UMin > a.UMax
	if least, most := int64(a.UMin), int64(a.UMax); least <= most {
		if least > a.SMin {
			a.SMin = least
		}
		if most < a.SMax {
			a.SMax = most
		}
	}
	if !(a.SMin < 0) || a.SMax < 0 {
		if least := uint64(a.SMin); least > a.UMin {
			a.UMin = least
		}
		if most := uint64(a.SMax); most < a.UMax {
			a.UMax = most
		}
	}
	if wrong || a.UMin > a.UMax || a.SMin > a.SMax {
		return scalar.Range{}, false
	}
	upper := tnum.Num{Mask: math.MaxUint64}
	for bit := uint64(1) << 63; bit != 0 && a.UMin&bit == a.UMax&bit; bit >>= 1 {
		upper.Mask &^= bit
		upper.Value |= a.UMin & bit
	}
	var some bool
	a.Bits, some = tnum.Meet(a.Bits, upper)
	if !some {
		return scalar.Range{}, false
	}
	return a, true
}

// P14.1: as told; it has all of a, is within a, and is false only where there is none.
func TestSettle(t *testing.T) {
	chance := rand.New(rand.NewPCG(14, 7))
	look := func(a scalar.Range, mine []uint64) {
		t.Helper()
		got, some := scalar.Settle(a)
		want, wanted := settled(a)
		if got != want || some != wanted {
			t.Fatalf("Settle(%+v): %+v, %v, not %+v, %v", a, got, some, want, wanted)
		}
		if some && !scalar.Within(got, a) || !some && len(mine) > 0 {
			t.Fatalf("Settle(%+v): %+v, %v", a, got, some)
		}
		for _, x := range mine {
			if !has(got, x) {
				t.Fatalf("Settle(%+v): %+v hasn't %x", a, got, x)
			}
		}
	}
	for range 100000 {
		a := few(chance, 5)
		look(a, numbers(a))
		a, mine := wide(chance)
		look(a, mine)
	}
}

// P14.1: each step of it.
func TestSettleByHand(t *testing.T) {
	whole := func(change func(*scalar.Range)) scalar.Range {
		a := scalar.Any()
		change(&a)
		return a
	}
	for _, c := range []struct{ a, want scalar.Range }{
		{scalar.Any(), scalar.Any()},
		{scalar.Const(5), scalar.Const(5)},
		{whole(func(a *scalar.Range) { a.Bits = tnum.Num{Value: 8, Mask: 5} }), scalar.Range{Bits: tnum.Num{Value: 8, Mask: 5}, UMin: 8, UMax: 13, SMin: 8, SMax: 13}},
		{whole(func(a *scalar.Range) { a.UMin, a.UMax = 8, 13 }), scalar.Range{Bits: tnum.Num{Value: 8, Mask: 7}, UMin: 8, UMax: 13, SMin: 8, SMax: 13}},
		{whole(func(a *scalar.Range) { a.UMin, a.UMax = 7, 7 }), scalar.Const(7)},
		{whole(func(a *scalar.Range) { a.SMin, a.SMax = 8, 13 }), scalar.Range{Bits: tnum.Num{Value: 8, Mask: 7}, UMin: 8, UMax: 13, SMin: 8, SMax: 13}},
		{whole(func(a *scalar.Range) { a.SMin, a.SMax = -2, -1 }), scalar.Range{Bits: tnum.Num{Value: math.MaxUint64 - 1, Mask: 1}, UMin: math.MaxUint64 - 1, UMax: math.MaxUint64, SMin: -2, SMax: -1}},
		{whole(func(a *scalar.Range) { a.SMin, a.SMax = -2, 1 }), whole(func(a *scalar.Range) { a.SMin, a.SMax = -2, 1 })},
		{whole(func(a *scalar.Range) { a.SMin = 0 }), scalar.Range{Bits: tnum.Num{Mask: math.MaxInt64}, UMax: math.MaxInt64, SMax: math.MaxInt64}},
		{whole(func(a *scalar.Range) { a.SMin = -1 }), whole(func(a *scalar.Range) { a.SMin = -1 })},
		{whole(func(a *scalar.Range) { a.SMax = -1 }), scalar.Range{Bits: tnum.Num{Value: 1 << 63, Mask: math.MaxInt64}, UMin: 1 << 63, UMax: math.MaxUint64, SMin: math.MinInt64, SMax: -1}},
		{whole(func(a *scalar.Range) { a.UMax = 1 << 63 }), whole(func(a *scalar.Range) { a.UMax = 1 << 63 })},
		{whole(func(a *scalar.Range) { a.UMin, a.SMax = 5, 9 }), whole(func(a *scalar.Range) { a.UMin, a.SMax = 5, 9 })},
	} {
		if got, some := scalar.Settle(c.a); got != c.want || !some {
			t.Errorf("Settle(%+v): %+v, %v, not %+v", c.a, got, some, c.want)
		}
	}
	for _, a := range []scalar.Range{
		whole(func(a *scalar.Range) { a.Bits = tnum.Num{Value: 1, Mask: 1} }),
		whole(func(a *scalar.Range) { a.UMin, a.UMax = 5, 4 }),
		whole(func(a *scalar.Range) { a.SMin, a.SMax = 5, 4 }),
		whole(func(a *scalar.Range) { a.Bits, a.UMax = tnum.Num{Value: 8, Mask: 7}, 7 }),
		whole(func(a *scalar.Range) { a.Bits, a.UMin = tnum.Num{Value: 8, Mask: 7}, 16 }),
		whole(func(a *scalar.Range) { a.UMin, a.UMax, a.SMin = 5, 6, 7 }),
		whole(func(a *scalar.Range) { a.UMin, a.UMax, a.SMax = 5, 6, 4 }),
		whole(func(a *scalar.Range) { a.Bits, a.UMin, a.UMax = tnum.Num{Mask: 9}, 2, 3 }),
		// The bits leave 2^63 - 1 to 5 alone, which would be taken with a sign as if they were from below 0 on.
		whole(func(a *scalar.Range) { a.Bits, a.UMin = tnum.Num{Mask: 5}, 1<<63 }),
	} {
		if got, some := scalar.Settle(a); some || got != (scalar.Range{}) {
			t.Errorf("Settle(%+v): %+v, %v", a, got, some)
		}
	}
}

// P14.2: what is handed in stays, and a call answers the same again.
func TestUnchanged(t *testing.T) {
	chance := rand.New(rand.NewPCG(14, 8))
	for range 2000 {
		all := []scalar.Range{few(chance, 4), few(chance, 4)}
		was := slices.Clone(all)
		type answers struct {
			join, low, do, settled scalar.Range
			some                   bool
		}
		var got [2]answers
		op, long := chance.IntN(13), chance.IntN(2) == 0
		for i := range got {
			got[i].join = scalar.Join(all[0], all[1])
			got[i].low = scalar.Low(all[0], 4)
			got[i].do = scalar.Do(op, long, all[0], all[1])
			got[i].settled, got[i].some = scalar.Settle(all[0])
		}
		if !slices.Equal(all, was) || got[0] != got[1] {
			t.Fatalf("%+v were %+v; %+v", all, was, got)
		}
	}
}
