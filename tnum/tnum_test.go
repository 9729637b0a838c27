package tnum_test

import (
	"math"
	"math/rand/v2"
	"testing"

	"tipstaff/tnum"
)

type pairCall struct {
	name string
	of   func(a, b tnum.Num) tnum.Num
	on   func(x, y uint64) uint64
}

// least are those calls of two numbers that answer the least one.
func leastCalls() []pairCall {
	return []pairCall{
		{"Add", tnum.Add, func(x, y uint64) uint64 { return x + y }},
		{"Sub", tnum.Sub, func(x, y uint64) uint64 { return x - y }},
		{"And", tnum.And, func(x, y uint64) uint64 { return x & y }},
		{"Or", tnum.Or, func(x, y uint64) uint64 { return x | y }},
		{"Xor", tnum.Xor, func(x, y uint64) uint64 { return x ^ y }},
	}
}

// numbers are all that a Num has, told without its package: the known bits, and each choice of the others.
func numbers(a tnum.Num) []uint64 {
	if a.Value&a.Mask != 0 {
		return nil
	}
	var all []uint64
	for some := a.Mask; ; some = (some - 1) & a.Mask {
		all = append(all, a.Value|some)
		if some == 0 {
			return all
		}
	}
}

// least is the least Num that has all of a list: a bit is known where all have it alike.
func least(all []uint64) tnum.Num {
	every, any := all[0], all[0]
	for _, x := range all {
		every &= x
		any |= x
	}
	return tnum.Num{Value: every, Mask: any &^ every}
}

func has(all []uint64, x uint64) bool {
	for _, one := range all {
		if one == x {
			return true
		}
	}
	return false
}

// placed puts the lower four bits of a number to four places.
func placed(x uint64, places [4]int) uint64 {
	var at uint64
	for i, place := range places {
		at |= x >> i & 1 << place
	}
	return at
}

// every is each Num, right or not, of four bits that stand at these places; the other bits are all known, as in rest.
func every(places [4]int, rest uint64) []tnum.Num {
	mine := placed(15, places)
	var all []tnum.Num
	for v := range uint64(16) {
		for m := range uint64(16) {
			all = append(all, tnum.Num{Value: placed(v, places) | rest&^mine, Mask: placed(m, places)})
		}
	}
	return all
}

func right(all []tnum.Num) []tnum.Num {
	var some []tnum.Num
	for _, a := range all {
		if a.Value&a.Mask == 0 {
			some = append(some, a)
		}
	}
	return some
}

// sets are lists of which each two Nums are looked at: at both ends, in the middle, and with carries over known bits.
func sets() [][]tnum.Num {
	return [][]tnum.Num{
		every([4]int{0, 1, 2, 3}, 0),
		every([4]int{60, 61, 62, 63}, 0),
		every([4]int{30, 31, 32, 33}, 0),
		every([4]int{0, 1, 62, 63}, math.MaxUint64),
		every([4]int{3, 7, 31, 63}, math.MaxUint64),
		every([4]int{1, 8, 15, 16}, 0xA5A5_A5A5_A5A5_A5A5),
	}
}

// chances are right ones of whatever bits, of which at most some aren't known.
func chances(chance *rand.Rand, count, unknown int) []tnum.Num {
	var all []tnum.Num
	for range count {
		var a tnum.Num
		for range chance.IntN(unknown + 1) {
			a.Mask |= 1 << chance.IntN(64)
		}
		a.Value = chance.Uint64() >> chance.IntN(64) &^ a.Mask
		if chance.IntN(2) == 0 {
			a.Value = ^a.Value &^ a.Mask
		}
		all = append(all, a)
	}
	return all
}

// P13.1
func TestConstAndAny(t *testing.T) {
	for _, x := range []uint64{0, 1, 5, 1 << 31, 1 << 32, 1 << 63, math.MaxUint64} {
		if got := tnum.Const(x); got != (tnum.Num{Value: x}) {
			t.Errorf("Const(%x): %x", x, got)
		}
		if !tnum.Has(tnum.Any(), x) {
			t.Errorf("Any hasn't %x", x)
		}
	}
	if got := tnum.Any(); got != (tnum.Num{Mask: math.MaxUint64}) {
		t.Errorf("Any: %x", got)
	}
}

// P13.1: what isn't right has no numbers.
func TestRightAndHas(t *testing.T) {
	for _, set := range sets() {
		for _, a := range set {
			mine := numbers(a)
			if got := tnum.Right(a); got != (len(mine) > 0) {
				t.Errorf("Right(%x): %v", a, got)
			}
			for _, b := range set {
				for _, x := range []uint64{b.Value, b.Value ^ 1<<5, b.Value ^ 1<<40, b.Mask, ^b.Value} {
					if got := tnum.Has(a, x); got != has(mine, x) {
						t.Fatalf("Has(%x, %x): %v", a, x, got)
					}
				}
			}
		}
	}
}

// P13.1
func TestWithin(t *testing.T) {
	for _, set := range sets() {
		set = right(set)
		for _, a := range set {
			for _, b := range set {
				want := true
				others := numbers(b)
				for _, x := range numbers(a) {
					want = want && has(others, x)
				}
				if got := tnum.Within(a, b); got != want {
					t.Fatalf("Within(%x, %x): %v", a, b, got)
				}
			}
			if !tnum.Within(a, tnum.Any()) || tnum.Within(tnum.Any(), a) {
				t.Fatalf("Within of %x and Any", a)
			}
			if wrong := (tnum.Num{Value: 1, Mask: 1}); tnum.Within(a, wrong) {
				t.Fatalf("%x is within one that has none", a)
			}
		}
	}
}

// lookPair holds a call against what there is of each two numbers. P13.2: it is right.
func lookPair(t *testing.T, c pairCall, a, b tnum.Num) {
	t.Helper()
	var all []uint64
	others := numbers(b)
	for _, x := range numbers(a) {
		for _, y := range others {
			all = append(all, c.on(x, y))
		}
	}
	if got := c.of(a, b); got != least(all) {
		t.Fatalf("%s(%x, %x): %x, not %x", c.name, a, b, got, least(all))
	}
}

// P13.1, P13.2: the least one that has all.
func TestLeastOfPairs(t *testing.T) {
	chance := rand.New(rand.NewPCG(13, 1))
	for _, c := range leastCalls() {
		for _, set := range sets() {
			set = right(set)
			for _, a := range set {
				for _, b := range set {
					lookPair(t, c, a, b)
				}
			}
		}
		others := chances(chance, 3000, 5)
		for i, a := range chances(chance, 3000, 5) {
			lookPair(t, c, a, others[i])
		}
	}
}

// P13.1
func TestLeastOfPairsWithAny(t *testing.T) {
	any, five := tnum.Any(), tnum.Const(5)
	for _, c := range []struct {
		name      string
		got, want tnum.Num
	}{
		{"Add", tnum.Add(any, five), any},
		{"Add", tnum.Add(tnum.Const(1), tnum.Num{Mask: 2}), tnum.Num{Value: 1, Mask: 2}},
		{"Sub", tnum.Sub(five, any), any},
		{"And", tnum.And(any, five), tnum.Num{Mask: 5}},
		{"Or", tnum.Or(any, five), tnum.Num{Value: 5, Mask: math.MaxUint64 - 5}},
		{"Xor", tnum.Xor(any, five), any},
		{"Mul", tnum.Mul(any, tnum.Const(0)), tnum.Const(0)},
		{"Mul", tnum.Mul(tnum.Const(0), any), tnum.Const(0)},
		{"Join", tnum.Join(any, five), any},
	} {
		if c.got != c.want {
			t.Errorf("%s: %x, not %x", c.name, c.got, c.want)
		}
	}
	if got, some := tnum.Meet(any, five); got != five || !some {
		t.Errorf("Meet: %x, %v", got, some)
	}
}

// P13.1, P13.2: all products; of two numbers alone theirs alone.
func TestMul(t *testing.T) {
	look := func(a, b tnum.Num) {
		t.Helper()
		got := tnum.Mul(a, b)
		if got.Value&got.Mask != 0 {
			t.Fatalf("Mul(%x, %x) isn't right: %x", a, b, got)
		}
		others := numbers(b)
		for _, x := range numbers(a) {
			for _, y := range others {
				if (x*y^got.Value)&^got.Mask != 0 {
					t.Fatalf("Mul(%x, %x): %x hasn't %x * %x", a, b, got, x, y)
				}
			}
		}
		if a.Mask|b.Mask == 0 && got.Mask != 0 {
			t.Fatalf("Mul(%x, %x): %x", a, b, got)
		}
	}
	for _, set := range sets() {
		set = right(set)
		for _, a := range set {
			for _, b := range set {
				look(a, b)
			}
		}
	}
	chance := rand.New(rand.NewPCG(13, 2))
	others := chances(chance, 10000, 4)
	for i, a := range chances(chance, 10000, 4) {
		look(a, others[i])
	}
	if got := tnum.Mul(tnum.Any(), tnum.Const(8)); got != (tnum.Num{Mask: math.MaxUint64 &^ 7}) {
		t.Errorf("of eights: %x", got)
	}
	if got := tnum.Mul(tnum.Num{Mask: 1}, tnum.Const(6)); got != (tnum.Num{Mask: 6}) {
		t.Errorf("0 or 6: %x", got)
	}
}

// modulo is a count modulo 64, told otherwise: of one below 0, too.
func modulo(by int) int {
	by %= 64
	if by < 0 {
		by += 64
	}
	return by
}

// P13.1, P13.2
func TestShifts(t *testing.T) {
	chance := rand.New(rand.NewPCG(13, 3))
	all := append(chances(chance, 30, 5), tnum.Num{Value: 4, Mask: 3}, tnum.Num{Value: 1, Mask: 1 << 63}, tnum.Const(math.MaxUint64))
	counts := []int{math.MinInt, math.MinInt + 1, math.MinInt32, -1 << 32, math.MaxInt, math.MaxInt - 1, math.MaxInt32, 1 << 32, 1<<32 + 1}
	for by := -130; by <= 130; by++ {
		counts = append(counts, by)
	}
	for _, a := range all {
		for _, by := range counts {
			var up, down []uint64
			for _, x := range numbers(a) {
				up = append(up, x<<modulo(by))
				down = append(down, x>>modulo(by))
			}
			if got := tnum.Left(a, by); got != least(up) {
				t.Fatalf("Left(%x, %d): %x", a, by, got)
			}
			if got := tnum.Down(a, by); got != least(down) {
				t.Fatalf("Down(%x, %d): %x", a, by, got)
			}
		}
	}
}

// P13.1, P13.2: of 1, 2 and 4 bytes; of all other counts all 8.
func TestLow(t *testing.T) {
	chance := rand.New(rand.NewPCG(13, 4))
	keep := map[int]uint64{1: 0xff, 2: 0xffff, 4: 0xffffffff}
	counts := []int{math.MinInt, math.MaxInt, 1<<32 + 1, 1<<8 + 1, 16, 32, 64}
	for n := -9; n <= 9; n++ {
		counts = append(counts, n)
	}
	all := append(chances(chance, 300, 6), tnum.Const(math.MaxUint64), tnum.Num{Value: 0x80808080_80808080, Mask: 0x01010101_01010101})
	for _, a := range all {
		for _, bytes := range counts {
			bits, cut := keep[bytes]
			if !cut {
				bits = math.MaxUint64
			}
			var want []uint64
			for _, x := range numbers(a) {
				want = append(want, x&bits)
			}
			if got := tnum.Low(a, bytes); got != least(want) {
				t.Fatalf("Low(%x, %d): %x, not %x", a, bytes, got, least(want))
			}
		}
	}
}

// lookBoth holds Join and Meet against the numbers of both.
func lookBoth(t *testing.T, a, b tnum.Num) {
	t.Helper()
	mine, others := numbers(a), numbers(b)
	var both []uint64
	for _, x := range mine {
		if has(others, x) {
			both = append(both, x)
		}
	}
	if got := tnum.Join(a, b); got != least(append(mine, others...)) {
		t.Fatalf("Join(%x, %x): %x", a, b, got)
	}
	got, some := tnum.Meet(a, b)
	if some != (len(both) > 0) || !some && got != (tnum.Num{}) {
		t.Fatalf("Meet(%x, %x): %x, %v", a, b, got, some)
	}
	if some && (got != least(both) || len(numbers(got)) != len(both)) {
		t.Fatalf("Meet(%x, %x): %x", a, b, got)
	}
}

// P13.1, P13.2
func TestJoinAndMeet(t *testing.T) {
	for _, set := range sets() {
		set = right(set)
		for _, a := range set {
			for _, b := range set {
				lookBoth(t, a, b)
			}
		}
	}
	chance := rand.New(rand.NewPCG(13, 5))
	for range 3000 {
		a := chances(chance, 1, 6)[0]
		b := a
		for range chance.IntN(4) {
			bit := uint64(1) << chance.IntN(64)
			switch chance.IntN(3) {
			case 0:
				b.Value ^= bit &^ b.Mask
			case 1:
				b.Mask |= bit
				b.Value &^= bit
			case 2:
				b.Mask &^= bit
			}
		}
		lookBoth(t, a, b)
	}
}

// P13.1: what isn't right has no numbers, so none in common with others; and no call panics.
func TestWrong(t *testing.T) {
	wrong := []tnum.Num{{1, 1}, {3, 2}, {1 << 63, 1 << 63}, {math.MaxUint64, math.MaxUint64}, {math.MaxUint64, 1}, {1, math.MaxUint64}}
	others := append([]tnum.Num{tnum.Any(), {}, tnum.Const(1), {Value: 4, Mask: 3}}, wrong...)
	for _, a := range wrong {
		if tnum.Right(a) || tnum.Has(a, a.Value) || tnum.Has(a, 0) || tnum.Has(a, a.Value&^a.Mask) {
			t.Errorf("%x has numbers", a)
		}
		for _, b := range others {
			for _, c := range leastCalls() {
				c.of(a, b)
				c.of(b, a)
			}
			tnum.Mul(a, b)
			tnum.Mul(b, a)
			tnum.Join(a, b)
			tnum.Join(b, a)
			if got, some := tnum.Meet(a, b); some || got != (tnum.Num{}) {
				t.Errorf("Meet(%x, %x): %x", a, b, got)
			}
			if got, some := tnum.Meet(b, a); some || got != (tnum.Num{}) {
				t.Errorf("Meet(%x, %x): %x", b, a, got)
			}
			if !tnum.Within(a, b) {
				t.Errorf("%x has no numbers, but isn't within %x", a, b)
			}
		}
		for _, by := range []int{math.MinInt, -1, 0, 1, 64, math.MaxInt} {
			tnum.Left(a, by)
			tnum.Down(a, by)
			tnum.Low(a, by)
		}
	}
}
