package absreg_test

import (
	"math"
	"math/rand/v2"
	"slices"
	"testing"

	"tipstaff/absreg"
	"tipstaff/scalar"
	"tipstaff/tnum"
)

// parts is how many registers and words a state has.
const parts = 19

// part is one of a state's registers, and then of its words.
func part(s *absreg.State, i int) *absreg.Reg {
	if i < 11 {
		return &s.R[i]
	}
	return &s.Kept[i-11]
}

func number(r scalar.Range) absreg.Reg { return absreg.Reg{Kind: absreg.Number, R: r} }

func upTo(most uint64) scalar.Range {
	r := scalar.Any()
	r.UMax = most
	return r
}

func place(kind, slot int, low, high int64) absreg.Reg {
	return absreg.Reg{Kind: kind, Slot: slot, Low: low, High: high}
}

func maybe(slot, id int) absreg.Reg { return absreg.Reg{Kind: absreg.Maybe, Slot: slot, Id: id} }

// sized is a number of which its size alone is known.
func sized(size int) absreg.Reg { return number(scalar.Low(scalar.Any(), size)) }

// P17.1: Start knows two places, and nothing else.
func TestStart(t *testing.T) {
	var want absreg.State
	want.R[1] = absreg.Reg{Kind: absreg.Ctx}
	want.R[10] = absreg.Reg{Kind: absreg.Stack}
	if got := absreg.Start(); got != want {
		t.Error(got)
	}
}

// P17.1: one part of each state, at each of all parts: which covers which?
func TestCoversOfOnePart(t *testing.T) {
	odd := scalar.Any()
	odd.Bits = tnum.Num{Value: 1, Mask: math.MaxUint64 - 1}
	below := scalar.Any()
	below.SMax = -1
	above := scalar.Any()
	above.SMin = -5
	from := scalar.Any()
	from.UMin = 3
	regs := []struct {
		name string
		r    absreg.Reg
	}{
		{"nothing", absreg.Reg{}},
		{"nothing, with other fields", absreg.Reg{R: scalar.Const(3), Slot: 1, Id: 2, Low: 3, High: 4}},
		{"3", number(scalar.Const(3))},
		{"3, with other fields", absreg.Reg{Kind: absreg.Number, R: scalar.Const(3), Slot: 1, Id: 2, Low: 3, High: 4}},
		{"4", number(scalar.Const(4))},
		{"up to 3", number(upTo(3))},
		{"from 3 on", number(from)},
		{"odd ones", number(odd)},
		{"below 0", number(below)},
		{"from -5 on", number(above)},
		{"any", number(scalar.Any())},
		{"ctx 0", place(absreg.Ctx, 0, 0, 0)},
		{"ctx 0, with other fields", absreg.Reg{Kind: absreg.Ctx, R: scalar.Const(3), Id: 2}},
		{"ctx 0 to 4", place(absreg.Ctx, 0, 0, 4)},
		{"ctx 1 to 4", place(absreg.Ctx, 0, 1, 4)},
		{"ctx 1 to 3", place(absreg.Ctx, 0, 1, 3)},
		{"stack 0", place(absreg.Stack, 0, 0, 0)},
		{"stack -8", place(absreg.Stack, 0, -8, -8)},
		{"stack -8 to 0", place(absreg.Stack, 0, -8, 0)},
		{"map 0", place(absreg.Map, 0, 0, 0)},
		{"map 0, with other fields", absreg.Reg{Kind: absreg.Map, R: scalar.Const(3), Id: 2, Low: 1, High: 2}},
		{"map 1", place(absreg.Map, 1, 0, 0)},
		{"cell of 0, 0", place(absreg.Cell, 0, 0, 0)},
		{"cell of 1, 0", place(absreg.Cell, 1, 0, 0)},
		{"cell of 1, -1 to 0", place(absreg.Cell, 1, -1, 0)},
		{"cell of 1, 0 to 1", place(absreg.Cell, 1, 0, 1)},
		{"cell of 1, -1 to 1", place(absreg.Cell, 1, -1, 1)},
		{"maybe of 0", maybe(0, 1)},
		{"maybe of 0, another id", maybe(0, 2)},
		{"maybe of 0, with other fields", absreg.Reg{Kind: absreg.Maybe, R: scalar.Const(3), Id: 3, Low: 1, High: 2}},
		{"maybe of 1", maybe(1, 1)},
	}
	covered := map[string][]string{
		"3":                             {"3, with other fields"},
		"3, with other fields":          {"3"},
		"up to 3":                       {"3", "3, with other fields"},
		"from 3 on":                     {"3", "3, with other fields", "4"},
		"odd ones":                      {"3", "3, with other fields"},
		"from -5 on":                    {"3", "3, with other fields", "4"},
		"any":                           {"3", "3, with other fields", "4", "up to 3", "from 3 on", "odd ones", "below 0", "from -5 on"},
		"ctx 0":                         {"ctx 0, with other fields"},
		"ctx 0, with other fields":      {"ctx 0"},
		"ctx 0 to 4":                    {"ctx 0", "ctx 0, with other fields", "ctx 1 to 4", "ctx 1 to 3"},
		"ctx 1 to 4":                    {"ctx 1 to 3"},
		"stack -8 to 0":                 {"stack 0", "stack -8"},
		"map 0":                         {"map 0, with other fields"},
		"map 0, with other fields":      {"map 0"},
		"cell of 1, -1 to 0":            {"cell of 1, 0"},
		"cell of 1, 0 to 1":             {"cell of 1, 0"},
		"cell of 1, -1 to 1":            {"cell of 1, 0", "cell of 1, -1 to 0", "cell of 1, 0 to 1"},
		"maybe of 0":                    {"maybe of 0, another id", "maybe of 0, with other fields"},
		"maybe of 0, another id":        {"maybe of 0", "maybe of 0, with other fields"},
		"maybe of 0, with other fields": {"maybe of 0", "maybe of 0, another id"},
	}
	for i := range parts {
		for _, x := range regs {
			for _, y := range regs {
				a, b := absreg.Start(), absreg.Start()
				*part(&a, i), *part(&b, i) = x.r, y.r
				want := x.r.Kind == absreg.None || x.name == y.name || slices.Contains(covered[x.name], y.name)
				if got := absreg.Covers(a, b); got != want {
					t.Errorf("part %d: %s, %s: %t", i, x.name, y.name, got)
				}
			}
		}
	}
}

// P17.1: a byte that one knows the other one knows.
func TestCoversOfBytes(t *testing.T) {
	for i := range 64 {
		a, b := absreg.Start(), absreg.Start()
		a.What[i] = true
		if absreg.Covers(a, b) || !absreg.Covers(b, a) || !absreg.Covers(a, a) {
			t.Error(i)
		}
		for j := range b.What {
			b.What[j] = j != i
		}
		if absreg.Covers(a, b) || absreg.Covers(b, a) {
			t.Error(i)
		}
		b.What[i] = true
		if !absreg.Covers(a, b) {
			t.Error(i)
		}
	}
}

// P17.1: Maybes of one Id in one are of one Id in the other, in registers and words; whatever number that is.
func TestCoversOfMaybes(t *testing.T) {
	for i := range parts {
		for j := range parts {
			if i == j {
				continue
			}
			var same, other, apart absreg.State
			*part(&same, i), *part(&same, j) = maybe(0, 1), maybe(0, 1)
			*part(&other, i), *part(&other, j) = maybe(0, 0), maybe(0, 0)
			*part(&apart, i), *part(&apart, j) = maybe(0, 1), maybe(0, 2)
			if absreg.Covers(same, apart) || !absreg.Covers(apart, same) {
				t.Error("apart", i, j)
			}
			if !absreg.Covers(same, other) || !absreg.Covers(other, same) {
				t.Error("the same", i, j)
			}
			*part(&apart, j) = absreg.Reg{}
			if absreg.Covers(same, apart) || !absreg.Covers(apart, same) {
				t.Error("one", i, j)
			}
		}
	}
	var a, b absreg.State
	a.R[0], a.R[4], a.Kept[0], a.Kept[7] = maybe(0, 1), maybe(1, 2), maybe(1, 2), maybe(0, 1)
	b.R[0], b.R[4], b.Kept[0], b.Kept[7] = maybe(0, 2), maybe(1, 1), maybe(1, 1), maybe(0, 2)
	if !absreg.Covers(a, b) || !absreg.Covers(b, a) {
		t.Error("numbers of ids that are changed about")
	}
	b.Kept[0].Id = 2
	if absreg.Covers(a, b) || absreg.Covers(b, a) {
		t.Error("one that is changed")
	}
}

// fewRegs are such of which some cover others.
var fewRegs = []absreg.Reg{
	{}, {}, number(scalar.Any()), number(upTo(8)), number(scalar.Const(8)), number(scalar.Range{Bits: tnum.Num{Value: 1, Mask: 1}}),
	place(absreg.Ctx, 0, 0, 0), place(absreg.Stack, 0, -8, -8), place(absreg.Cell, 1, 0, 8), place(absreg.Cell, 1, 2, 3),
	place(absreg.Cell, 1, 5, 1), place(absreg.Map, 1, 0, 0), maybe(1, 1), maybe(1, 2), maybe(1, 3), {Kind: 9}, {Kind: -1},
}

// some is a state by chance, of few different ones: the first registers and words alone have something.
func some(chance *rand.Rand) absreg.State {
	var s absreg.State
	for _, r := range []*absreg.Reg{&s.R[0], &s.R[7], &s.Kept[0], &s.Kept[7]} {
		*r = fewRegs[chance.IntN(len(fewRegs))]
		if chance.IntN(3) > 0 {
			*r = maybe(1, chance.IntN(3))
		}
	}
	s.What[chance.IntN(3)*31] = true
	return s
}

// covers is told anew: by each two parts' Ids, and by what is known.
func covers(a, b absreg.State) bool {
	for i := range parts {
		x, y := *part(&a, i), *part(&b, i)
		fits := x.Kind == y.Kind
		switch x.Kind {
		case absreg.None:
			fits = true
		case absreg.Number:
			fits = fits && scalar.Within(y.R, x.R)
		case absreg.Ctx, absreg.Stack, absreg.Cell:
			fits = fits && x.Slot == y.Slot && min(x.Low, y.Low) == x.Low && max(x.High, y.High) == x.High
		case absreg.Map, absreg.Maybe:
			fits = fits && x.Slot == y.Slot
		}
		if !fits {
			return false
		}
		for j := range i {
			other := *part(&a, j)
			if x.Kind == absreg.Maybe && other.Kind == absreg.Maybe && x.Id == other.Id && y.Id != part(&b, j).Id {
				return false
			}
		}
	}
	for i, known := range a.What {
		if known && !b.What[i] {
			return false
		}
	}
	return true
}

// P17.1, P17.2: Covers of states by chance, against what is told; each covers itself; and what is covered by what is
// covered is covered.
func TestCoversByChance(t *testing.T) {
	chance := rand.New(rand.NewPCG(17, 2))
	chains := 0
	for range 600 {
		all := make([]absreg.State, 12)
		for i := range all {
			all[i] = some(chance)
		}
		for _, a := range all {
			if !absreg.Covers(a, a) {
				t.Fatal(a)
			}
			for _, b := range all {
				if absreg.Covers(a, b) != covers(a, b) {
					t.Fatal(a, b)
				}
				if a == b || !covers(a, b) {
					continue
				}
				for _, c := range all {
					if !absreg.Covers(b, c) {
						continue
					}
					if !absreg.Covers(a, c) {
						t.Fatal(a, b, c)
					}
					chains++
				}
			}
		}
	}
	if chains < 500 {
		t.Error(chains)
	}
}

// farPlaces are places about the stack's ends, and far away.
func farPlaces() []int64 {
	all := []int64{math.MinInt64, math.MinInt64 + 1, math.MinInt64 + 63, -1 << 32, -1<<32 - 8, 1 << 32, 1<<32 - 8, math.MaxInt64 - 7, math.MaxInt64}
	for at := int64(-80); at < 20; at++ {
		all = append(all, at)
	}
	return all
}

var allSizes = []int{math.MinInt, -8, -1, 0, 1, 2, 3, 4, 5, 6, 7, 8, 9, 12, 16, 32, 64, 65, 1 << 32, 1<<32 + 1, 1<<32 + 8, math.MaxInt}

func isSize(n int) bool { return slices.Contains([]int{1, 2, 4, 8}, n) }

func there(at int64, n int) bool {
	return n >= 0 && at >= -64 && at <= 0 && n <= 64 && at+int64(n) <= 0
}

// stack is one, told anew: of each byte a letter (n: of a number; other ones unknown), of each eighth one what was saved there whole.
type stack struct {
	bytes string
	whole map[int64]absreg.Reg
}

func newStack() *stack {
	b := make([]byte, 64)
	for i := range b {
		b[i] = '?'
	}
	return &stack{string(b), map[int64]absreg.Reg{}}
}

func (s *stack) set(at int64, n int, letter string) {
	from := int(at) + 64
	for range n {
		s.bytes = s.bytes[:from] + letter + s.bytes[from+1:]
		from++
	}
}

func (s *stack) save(at int64, size int, r absreg.Reg) bool {
	if !isSize(size) || !there(at, size) || r.Kind == absreg.None {
		return false
	}
	if r.Kind != absreg.Number && (size != 8 || at%8 != 0) {
		return false
	}
	for from := range s.whole {
		if from < at+int64(size) && at < from+8 {
			delete(s.whole, from)
			s.set(from, 8, "?")
		}
	}
	if r.Kind == absreg.Number {
		s.set(at, size, "n")
	} else {
		s.set(at, size, "?")
		s.whole[at] = r
	}
	return true
}

func (s *stack) ready(at int64, n int) bool {
	if n <= 0 {
		return n == 0
	}
	if !there(at, n) {
		return false
	}
	for _, letter := range s.bytes[at+64 : at+64+int64(n)] {
		if letter != 'n' {
			return false
		}
	}
	return true
}

func (s *stack) load(at int64, size int) (absreg.Reg, bool) {
	if !isSize(size) || !there(at, size) {
		return absreg.Reg{}, false
	}
	if r, kept := s.whole[at]; kept && size == 8 {
		return r, true
	}
	if !s.ready(at, size) {
		return absreg.Reg{}, false
	}
	return sized(size), true
}

func (s *stack) settle(id int, cell bool) {
	for from, r := range s.whole {
		if r.Kind != absreg.Maybe || r.Id != id {
			continue
		}
		s.whole[from] = place(absreg.Cell, r.Slot, 0, 0)
		if !cell {
			s.whole[from] = number(scalar.Const(0))
			s.set(from, 8, "n")
		}
	}
}

// look holds a state's stack against the one that is told.
func look(t *testing.T, s absreg.State, want *stack) {
	t.Helper()
	for _, at := range farPlaces() {
		for _, size := range allSizes {
			r, ok := want.load(at, size)
			if got, may := absreg.Load(s, at, size); got != r || may != ok {
				t.Fatalf("Load of %d at %d: %v, %t, not %v, %t", size, at, got, may, r, ok)
			}
			if got := absreg.Ready(s, at, size); got != want.ready(at, size) {
				t.Fatalf("Ready of %d at %d: %t", size, at, got)
			}
		}
	}
}

// P17.1: Load and Ready of states that came by Save and Settle, by chance, held against a stack that is told anew.
func TestScripts(t *testing.T) {
	chance := rand.New(rand.NewPCG(17, 1))
	regs := []absreg.Reg{
		{}, number(scalar.Const(3)), number(scalar.Const(5)), number(scalar.Any()), sized(1),
		place(absreg.Ctx, 0, 3, 3), place(absreg.Stack, 0, -8, -8), place(absreg.Cell, 2, 1, 4), place(absreg.Map, 2, 0, 0),
		maybe(0, 0), maybe(0, 1), maybe(1, 1), maybe(2, 2), maybe(2, 3),
	}
	for range 40 {
		s, want := absreg.Start(), newStack()
		for range 60 {
			if chance.IntN(6) == 0 {
				id, cell := chance.IntN(5), chance.IntN(2) == 0
				s = absreg.Settle(s, id, cell)
				want.settle(id, cell)
				continue
			}
			at, size, r := int64(chance.IntN(66)-65), 1<<chance.IntN(4), regs[chance.IntN(len(regs))]
			if chance.IntN(2) == 0 {
				at = int64(chance.IntN(8)-8) * 8
			}
			saved, ok := absreg.Save(s, at, size, r)
			if ok != want.save(at, size, r) {
				t.Fatal(at, size, r, ok)
			}
			if !ok && saved != s {
				t.Fatal("changed", at, size, r)
			}
			if saved.R != absreg.Start().R {
				t.Fatal("registers changed")
			}
			s = saved
		}
		look(t, s, want)
	}
}

// P17.1: Save at all places, in all sizes, of all kinds: what may be saved, and what the state is then, field by field.
func TestSave(t *testing.T) {
	for _, at := range farPlaces() {
		for _, size := range allSizes {
			for _, r := range append(slices.Clone(fewRegs), number(scalar.Range{UMin: 1})) {
				ok := isSize(size) && there(at, size) && r.Kind != absreg.None
				word := size == 8 && at%8 == 0
				if r.Kind != absreg.Number && !word {
					ok = false
				}
				s := absreg.Start()
				want := s
				if ok && r.Kind == absreg.Number {
					for i := range size {
						want.What[int(at)+64+i] = true
					}
				} else if ok {
					want.Kept[(at+64)/8] = r
				}
				if got, may := absreg.Save(s, at, size, r); may != ok || got != want {
					t.Fatal(at, size, r, may)
				}
			}
		}
	}
}

// P17.1: what was saved whole in a word is gone with each byte that is written over, and no byte of it is known then; other
// words stay.
func TestSaveOver(t *testing.T) {
	for at := int64(-64); at < 0; at++ {
		for _, size := range []int{1, 2, 4, 8} {
			var s absreg.State
			for w := range s.Kept {
				s.Kept[w] = place(absreg.Map, w, 0, 0)
			}
			// A word's bytes may be a number's, too: it was found to be nought.
			s.Kept[1] = number(scalar.Const(0))
			for i := 8; i < 16; i++ {
				s.What[i] = true
			}
			saved, ok := absreg.Save(s, at, size, number(scalar.Const(1)))
			if !there(at, size) {
				continue
			}
			first, last := (at+64)/8, (at+64+int64(size)-1)/8
			for w := range int64(8) {
				over := w >= first && w <= last
				if over != (saved.Kept[w] == absreg.Reg{}) || !over && saved.Kept[w] != s.Kept[w] {
					t.Fatal(at, size, w, saved.Kept[w])
				}
				for i := w * 8; i < w*8+8; i++ {
					written := i >= at+64 && i < at+64+int64(size)
					if saved.What[i] != (written || !over && w == 1) {
						t.Fatal(at, size, i)
					}
				}
			}
			if !ok {
				t.Fatal(at, size)
			}
		}
	}
}

// P17.1: a number's bytes beside those that are written over stay known, but not below a place.
func TestSaveOverNumbers(t *testing.T) {
	s, _ := absreg.Save(absreg.Start(), -8, 8, number(scalar.Const(3)))
	s, _ = absreg.Save(s, -16, 8, number(scalar.Const(3)))
	s, ok := absreg.Save(s, -10, 4, number(scalar.Const(3)))
	if !ok || !absreg.Ready(s, -16, 16) {
		t.Error("numbers")
	}
	s, ok = absreg.Save(s, -16, 8, place(absreg.Stack, 0, 0, 0))
	if !ok || !absreg.Ready(s, -8, 8) {
		t.Error("place")
	}
	for at := int64(-16); at < -8; at++ {
		if absreg.Ready(s, at, 1) {
			t.Error(at)
		}
	}
	if got, ok := absreg.Load(s, -16, 8); !ok || got != place(absreg.Stack, 0, 0, 0) {
		t.Error(got, ok)
	}
}

// P17.1: the example; a number that was saved whole is known by its size alone.
func TestNumberBySize(t *testing.T) {
	s, ok := absreg.Save(absreg.Start(), -8, 8, number(scalar.Const(3)))
	if !ok || !absreg.Ready(s, -8, 8) {
		t.Error(ok)
	}
	if got, ok := absreg.Load(s, -8, 1); !ok || got != number(scalar.Low(scalar.Any(), 1)) || got.R.UMax != 255 {
		t.Error(got, ok)
	}
	if got, ok := absreg.Load(s, -8, 8); !ok || got != number(scalar.Any()) {
		t.Error(got, ok)
	}
}

// P17.1: Ready of no bytes, and of fewer.
func TestReadyOfNone(t *testing.T) {
	for _, at := range farPlaces() {
		if !absreg.Ready(absreg.Start(), at, 0) {
			t.Error(at)
		}
		for _, n := range []int{-1, -8, -1 << 32, math.MinInt} {
			if absreg.Ready(absreg.Start(), at, n) {
				t.Error(at, n)
			}
		}
	}
}

// P17.1: Settle changes the Maybes of one Id, in each register and word, and nothing else.
func TestSettle(t *testing.T) {
	for _, cell := range []bool{true, false} {
		for i := range parts {
			var s absreg.State
			for j := range parts {
				*part(&s, j) = maybe(j, 7)
				part(&s, j).R, part(&s, j).Low, part(&s, j).High = scalar.Const(9), 1, 2
			}
			*part(&s, i) = absreg.Reg{Kind: absreg.Maybe, Slot: 3, Id: 4, R: scalar.Const(9), Low: 1, High: 2}
			other := (i + 5) % parts
			// An Id is a Maybe's alone.
			*part(&s, other) = absreg.Reg{Kind: absreg.Map, Slot: 3, Id: 4}
			s.What[17], s.What[63] = true, true
			want := s
			*part(&want, i) = absreg.Reg{Kind: absreg.Cell, Slot: 3}
			if !cell {
				*part(&want, i) = absreg.Reg{Kind: absreg.Number, R: scalar.Const(0)}
				for b := range 8 {
					if i >= 11 {
						want.What[(i-11)*8+b] = true
					}
				}
			}
			if got := absreg.Settle(s, 4, cell); got != want {
				t.Errorf("part %d, %t: %v", i, cell, got)
			}
			for _, id := range []int{0, -1, 3, 5, math.MinInt, math.MaxInt, 1<<32 + 4} {
				if got := absreg.Settle(s, id, cell); got != s {
					t.Errorf("part %d, %t, another id: %v", i, cell, got)
				}
			}
		}
	}
}

// P17.1: all that are of one Id are settled at once.
func TestSettleOfAll(t *testing.T) {
	var s, cells, noughts absreg.State
	for i := range parts {
		*part(&s, i) = maybe(2, 0)
		*part(&cells, i) = place(absreg.Cell, 2, 0, 0)
		*part(&noughts, i) = number(scalar.Const(0))
	}
	for i := range noughts.What {
		noughts.What[i] = true
	}
	if absreg.Settle(s, 0, true) != cells || absreg.Settle(s, 0, false) != noughts {
		t.Error("not all")
	}
	for at := int64(-64); at < 0; at += 8 {
		if r, ok := absreg.Load(noughts, at, 8); !ok || r != number(scalar.Const(0)) {
			t.Error(at, r)
		}
		if r, ok := absreg.Load(noughts, at+4, 4); !ok || r != sized(4) {
			t.Error(at, r)
		}
	}
}

// P17.3: what is handed in stays.
func TestArgumentsStay(t *testing.T) {
	s, _ := absreg.Save(absreg.Start(), -16, 8, maybe(1, 4))
	s, _ = absreg.Save(s, -8, 8, number(scalar.Const(1)))
	s.R[0] = maybe(1, 4)
	as := s
	absreg.Covers(s, s)
	absreg.Load(s, -8, 4)
	absreg.Save(s, -12, 4, number(scalar.Const(1)))
	absreg.Save(s, -8, 8, place(absreg.Map, 0, 0, 0))
	absreg.Ready(s, -8, 8)
	absreg.Settle(s, 4, true)
	absreg.Settle(s, 4, false)
	if s != as {
		t.Error(s)
	}
}
