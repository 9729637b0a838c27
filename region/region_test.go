package region_test

import (
	"bytes"
	"encoding/binary"
	"math"
	"math/rand/v2"
	"slices"
	"testing"

	"tipstaff/api"
	"tipstaff/bmap"
	"tipstaff/region"
)

func number(n uint64) region.Val { return region.Val{Tag: region.Number, N: n} }

func ctx(n int64) region.Val { return region.Val{Tag: region.Ctx, N: uint64(n)} }

func stack(n int64) region.Val { return region.Val{Tag: region.Stack, N: uint64(n)} }

func cell(slot int, c *bmap.Cell, n int64) region.Val {
	return region.Val{Tag: region.Cell, N: uint64(n), Slot: slot, Cell: c}
}

// context is 32 bytes, none of them like another one.
func context() [32]byte {
	var b [32]byte
	for i := range b {
		b[i] = byte(0x81 + 3*i)
	}
	return b
}

// hash is a map of one entry, and that one's cell.
func hash(t testing.TB, value string) (*bmap.Map, *bmap.Cell) {
	t.Helper()
	m, err := bmap.New(bmap.Spec{Type: api.Hash, Key: 1, Value: len(value), Entries: 4})
	if err != api.OK || m.Update([]byte("k"), []byte(value), 0) != api.OK {
		t.Fatal(err)
	}
	c, err := m.Cell([]byte("k"))
	if err != api.OK {
		t.Fatal(err)
	}
	return m, c
}

// lowest is the number of bytes, the lowest first.
func lowest(b []byte) uint64 {
	var whole [8]byte
	copy(whole[:], b)
	return binary.LittleEndian.Uint64(whole[:])
}

var sizes = []int{1, 2, 4, 8}

var wrongSizes = []int{math.MinInt, -8, -1, 0, 3, 5, 6, 7, 9, 16, 32, 64, 1 << 32, 1<<32 + 1, math.MaxInt}

// splits are ways to part a place into a Val's own and one that is added.
func splits(at int64) [][2]int64 {
	return [][2]int64{{at, 0}, {0, at}, {at - 5, 5}, {at + 9, -9}, {at - math.MaxInt16, math.MaxInt16}, {at - 1<<40, 1 << 40}}
}

// P19.1: of the context each place may be read in each size, and none may be written.
func TestContext(t *testing.T) {
	b := context()
	m := region.New(b, nil)
	for at := int64(-70); at < 70; at++ {
		for _, s := range splits(at) {
			for _, size := range sizes {
				want, err := region.Val{}, api.EFAULT
				if at >= 0 && at+int64(size) <= 32 {
					want, err = number(lowest(b[at:at+int64(size)])), api.OK
				}
				if got, e := m.Load(ctx(s[0]), s[1], size); got != want || e != err {
					t.Fatalf("%d, %d: %v, %d", s, size, got, e)
				}
				if e := m.Save(ctx(s[0]), s[1], size, number(1)); e != api.EFAULT {
					t.Fatalf("Save %d, %d: %d", s, size, e)
				}
			}
		}
		for n := range 40 {
			got, e := m.Bytes(ctx(at), n)
			if at >= 0 && at+int64(n) <= 32 {
				if !bytes.Equal(got, b[at:at+int64(n)]) || e != api.OK {
					t.Fatal(at, n, got, e)
				}
			} else if got != nil || e != api.EFAULT {
				t.Fatal(at, n, got, e)
			}
			if e := m.Fill(ctx(at), make([]byte, n)); e != api.EFAULT {
				t.Fatal(at, n, e)
			}
		}
	}
	for at := range int64(32) {
		if got, e := m.Load(ctx(at), 0, 1); got.N != uint64(b[at]) || e != api.OK {
			t.Error(at, got, e)
		}
	}
}

// P19.1: a stack of which no byte was written: none may be read; each may be written, in each size.
func TestFreshStack(t *testing.T) {
	for at := int64(-80); at < 16; at++ {
		for _, s := range splits(at) {
			for _, size := range sizes {
				m := region.New(context(), nil)
				if got, e := m.Load(stack(s[0]), s[1], size); got != (region.Val{}) || e != api.EFAULT {
					t.Fatal(s, size, got, e)
				}
				err := api.EFAULT
				if at >= -64 && at+int64(size) <= 0 {
					err = api.OK
				}
				n := uint64(0x8877665544332211)
				if e := m.Save(stack(s[0]), s[1], size, number(n)); e != err {
					t.Fatal(s, size, e)
				}
				for i := int64(-66); i < 2; i++ {
					got, e := m.Load(stack(i), 0, 1)
					if err == api.OK && i >= at && i < at+int64(size) {
						if got != number(uint64(byte(n>>(8*(i-at))))) || e != api.OK {
							t.Fatal(s, size, i, got, e)
						}
					} else if got != (region.Val{}) || e != api.EFAULT {
						t.Fatal(s, size, i, got, e)
					}
				}
			}
		}
	}
}

// P19.1: of a cell each of its bytes may be read and written, and no other one; they are the map's.
func TestCell(t *testing.T) {
	const text = "abcdefghijklm"
	for at := int64(-16); at < 24; at++ {
		for _, s := range splits(at) {
			for _, size := range sizes {
				owner, c := hash(t, text)
				m := region.New(context(), []*bmap.Map{nil, owner})
				there := at >= 0 && at+int64(size) <= int64(len(text))
				want, err := region.Val{}, api.EFAULT
				if there {
					want, err = number(lowest([]byte(text)[at:at+int64(size)])), api.OK
				}
				if got, e := m.Load(cell(1, c, s[0]), s[1], size); got != want || e != err {
					t.Fatal(s, size, got, e)
				}
				if e := m.Save(cell(1, c, s[0]), s[1], size, number(0x1716151413121110)); e != err {
					t.Fatal(s, size, e)
				}
				b := []byte(text)
				if there {
					copy(b[at:at+int64(size)], "\x10\x11\x12\x13\x14\x15\x16\x17")
				}
				if got, _ := owner.Lookup([]byte("k")); !bytes.Equal(got, b) {
					t.Fatal(s, size, got)
				}
			}
		}
	}
}

// P19.1: a cell's map must be there to be written, and mayn't be frozen; that doesn't matter to what is read.
func TestCellsMap(t *testing.T) {
	owner, c := hash(t, "abcdefgh")
	other, _ := hash(t, "x")
	frozen, _ := hash(t, "x")
	frozen.Freeze()
	m := region.New(context(), []*bmap.Map{owner, nil, other, frozen})
	for _, x := range []struct {
		slot int
		err  api.Errno
	}{{0, api.OK}, {1, api.EFAULT}, {2, api.OK}, {3, api.EFAULT}, {4, api.EFAULT}, {-1, api.EFAULT}, {1 << 32, api.EFAULT},
		{math.MinInt, api.EFAULT}, {math.MaxInt, api.EFAULT}} {
		before := string(c.B)
		at := cell(x.slot, c, 0)
		if e := m.Save(at, 0, 1, number(uint64(c.B[0]+1))); e != x.err {
			t.Error("Save", x.slot, e)
		}
		if e := m.Fill(cell(x.slot, c, 1), []byte{c.B[1] + 1}); e != x.err {
			t.Error("Fill", x.slot, e)
		}
		if e := m.Fill(at, nil); e != x.err {
			t.Error("Fill of nothing", x.slot, e)
		}
		if changed := string(c.B) != before; changed != (x.err == api.OK) {
			t.Error(x.slot, c.B)
		}
		if v, e := m.Load(at, 0, 8); v != number(lowest(c.B)) || e != api.OK {
			t.Error("Load", x.slot, v, e)
		}
		if b, e := m.Bytes(at, 8); !bytes.Equal(b, c.B) || e != api.OK {
			t.Error("Bytes", x.slot, b, e)
		}
	}
	// The map of that slot is asked, whatever cell it is; and when it is frozen.
	owner.Freeze()
	if m.Save(cell(0, c, 0), 0, 1, number(1)) != api.EFAULT || m.Save(cell(2, c, 0), 0, 1, number(1)) != api.OK {
		t.Error("frozen behind")
	}
}

// P19.1: cells of other sizes, none at all, and none to be seen.
func TestOddCells(t *testing.T) {
	owner, _ := hash(t, "x")
	m := region.New(context(), []*bmap.Map{owner})
	long := &bmap.Cell{B: make([]byte, 100)}
	empty := &bmap.Cell{}
	if e := m.Save(cell(0, long, 92), 0, 8, number(5)); e != api.OK || long.B[92] != 5 {
		t.Error(e)
	}
	if e := m.Save(cell(0, long, 93), 0, 8, number(5)); e != api.EFAULT {
		t.Error(e)
	}
	if b, e := m.Bytes(cell(0, long, 36), 64); len(b) != 64 || e != api.OK {
		t.Error(b, e)
	}
	if b, e := m.Bytes(cell(0, long, 0), 65); b != nil || e != api.EFAULT {
		t.Error(b, e)
	}
	if e := m.Fill(cell(0, long, 0), bytes.Repeat([]byte{7}, 100)); e != api.OK || long.B[0] != 7 || long.B[99] != 7 {
		t.Error(e)
	}
	if e := m.Fill(cell(0, long, 1), bytes.Repeat([]byte{8}, 100)); e != api.EFAULT || slices.Contains(long.B, 8) {
		t.Error(e)
	}
	if _, e := m.Load(cell(0, empty, 0), 0, 1); e != api.EFAULT {
		t.Error(e)
	}
	if b, e := m.Bytes(cell(0, empty, 0), 0); len(b) != 0 || e != api.OK {
		t.Error(b, e)
	}
	for _, n := range []int64{0, 1, -1} {
		at := cell(0, nil, n)
		_, e1 := m.Load(at, 0, 1)
		_, e2 := m.Bytes(at, 0)
		_, e3 := m.Bytes(at, 1)
		if all := []api.Errno{e1, e2, e3, m.Save(at, 0, 1, number(1)), m.Fill(at, nil), m.Fill(at, []byte{1})}; slices.ContainsFunc(all, func(e api.Errno) bool { return e != api.EFAULT }) {
			t.Error(n, all)
		}
	}
}

// P19.1: of what is no place nothing can be read or written.
func TestNoPlace(t *testing.T) {
	owner, c := hash(t, "abcdefgh")
	m := region.New(context(), []*bmap.Map{owner})
	m.Fill(stack(-64), make([]byte, 64))
	for _, tag := range []int{region.None, region.Number, region.Map, 6, 7, -1, math.MinInt, math.MaxInt, 1<<32 + 3, 1<<32 + 5} {
		for _, n := range []int64{0, -8} {
			at := region.Val{Tag: tag, N: uint64(n), Cell: c}
			if v, e := m.Load(at, 0, 1); v != (region.Val{}) || e != api.EFAULT {
				t.Error(tag, v, e)
			}
			if e := m.Save(at, 0, 1, number(1)); e != api.EFAULT {
				t.Error(tag, e)
			}
			for _, count := range []int{0, 1} {
				if b, e := m.Bytes(at, count); b != nil || e != api.EFAULT {
					t.Error(tag, b, e)
				}
				if e := m.Fill(at, make([]byte, count)); e != api.EFAULT {
					t.Error(tag, e)
				}
			}
		}
	}
}

// P19.1: other sizes than the four.
func TestWrongSizes(t *testing.T) {
	owner, c := hash(t, "abcdefgh")
	m := region.New(context(), []*bmap.Map{owner})
	m.Fill(stack(-64), make([]byte, 64))
	for _, size := range wrongSizes {
		for _, at := range []region.Val{ctx(0), stack(-64), cell(0, c, 0), stack(-16)} {
			if v, e := m.Load(at, 0, size); v != (region.Val{}) || e != api.EFAULT {
				t.Error(size, v, e)
			}
			for _, v := range []region.Val{number(1), ctx(0)} {
				if e := m.Save(at, 0, size, v); e != api.EFAULT {
					t.Error(size, e)
				}
			}
		}
		if size < 0 || size > 64 {
			if b, e := m.Bytes(stack(-64), size); b != nil || e != api.EFAULT {
				t.Error(size, b, e)
			}
		}
	}
	if string(c.B) != "abcdefgh" {
		t.Error(c.B)
	}
}

// P19.1: places so far away that a sum of numbers of 64 bits would come round.
func TestFarPlaces(t *testing.T) {
	owner, c := hash(t, "abcdefgh")
	m := region.New(context(), []*bmap.Map{owner})
	m.Fill(stack(-64), make([]byte, 64))
	ends := []int64{math.MinInt64, math.MinInt64 + 1, math.MinInt64 + 64, -1 << 32, 1 << 32, math.MaxInt64 - 64, math.MaxInt64 - 7, math.MaxInt64}
	for _, n := range ends {
		for _, off := range append(ends, 0, 1, -1, 8, -8) {
			for _, at := range []region.Val{ctx(n), stack(n), cell(0, c, n)} {
				// Of these, too, only those sums that are truly within may be read.
				sum := float64(n) + float64(off)
				if sum >= -64 && sum < 32 {
					continue
				}
				if v, e := m.Load(at, off, 1); v != (region.Val{}) || e != api.EFAULT {
					t.Error(at, off, v, e)
				}
				if e := m.Save(at, off, 1, number(1)); e != api.EFAULT {
					t.Error(at, off, e)
				}
				if b, e := m.Bytes(at, 0); b != nil || e != api.EFAULT {
					t.Error(at, b, e)
				}
				if e := m.Fill(at, nil); e != api.EFAULT {
					t.Error(at, e)
				}
			}
		}
	}
	for _, x := range []struct{ n, off int64 }{{math.MaxInt64, math.MaxInt64}, {math.MinInt64, math.MinInt64}, {math.MinInt64, math.MinInt64 + 4}} {
		for _, at := range []region.Val{ctx(x.n), stack(x.n), cell(0, c, x.n)} {
			if _, e := m.Load(at, x.off, 1); e != api.EFAULT {
				t.Error(at, x.off, e)
			}
			if e := m.Save(at, x.off, 1, number(1)); e != api.EFAULT {
				t.Error(at, x.off, e)
			}
		}
	}
}

// P19.1: what may be saved: a number anywhere, a place or a map in a word of the stack alone, nothing else.
func TestWhatMayBeSaved(t *testing.T) {
	owner, c := hash(t, "abcdefghijklmnop")
	vals := []region.Val{
		{}, {Tag: region.None, N: 5}, {Tag: -1}, {Tag: 6}, {Tag: 1<<32 + 1}, {Tag: math.MinInt}, {Tag: math.MaxInt},
		number(9), {Tag: region.Number, N: 7, Slot: 3, Cell: c},
		ctx(0), ctx(-5), stack(0), cell(0, c, 3), cell(0, nil, 0), {Tag: region.Map, Slot: 2}, {Tag: region.Map, N: 4, Slot: -7, Cell: c},
	}
	for i, v := range vals {
		for at := int64(-64); at <= 0; at++ {
			for _, size := range sizes {
				m := region.New(context(), []*bmap.Map{owner})
				isNumber, known := v.Tag == region.Number, v.Tag >= region.Number && v.Tag <= region.Cell
				ok := known && at+int64(size) <= 0 && (isNumber || size == 8 && at%8 == 0)
				if e := m.Save(stack(at), 0, size, v); (e == api.OK) != ok || !ok && e != api.EFAULT {
					t.Fatal(i, at, size, e)
				}
				want := region.Val{}
				if ok {
					want = v
				}
				if ok && isNumber {
					want = number(v.N)
				}
				if got, _ := m.Load(stack(at), 0, size); got != want {
					t.Fatal(i, at, size, got)
				}
				if e := m.Save(cell(0, c, 0), 8, size, v); (e == api.OK) != isNumber {
					t.Fatal(i, size, e)
				}
			}
		}
	}
	if string(c.B[:8]) != "abcdefgh" {
		t.Error(c.B)
	}
}

// P19.1: a place of which a byte is written over is gone, its other bytes are as never written; one beside it stays.
func TestPlacesWrittenOver(t *testing.T) {
	for at := int64(-24); at < 0; at++ {
		for size := range 9 {
			for _, fill := range []bool{false, true} {
				m := region.New(context(), nil)
				m.Fill(stack(-24), bytes.Repeat([]byte{1}, 24))
				for w := int64(-24); w < 0; w += 8 {
					if m.Save(stack(w), 0, 8, ctx(w)) != api.OK {
						t.Fatal(w)
					}
				}
				var e api.Errno
				if fill {
					e = m.Fill(stack(at), bytes.Repeat([]byte{2}, size))
				} else {
					e = m.Save(stack(at), 0, size, number(0x0202020202020202))
				}
				end := at + int64(size)
				done := end <= 0 && (fill || slices.Contains(sizes, size))
				if (e == api.OK) != done {
					t.Fatal(at, size, e)
				}
				for i := int64(-24); i < 0; i++ {
					want, err := region.Val{}, api.EFAULT
					if done && i >= at && i < end {
						want, err = number(2), api.OK
					}
					if v, e := m.Load(stack(i), 0, 1); v != want || e != err {
						t.Fatal(at, size, fill, i, v, e)
					}
				}
				for w := int64(-24); w < 0; w += 8 {
					v, e := m.Load(stack(w), 0, 8)
					switch {
					case !done || size == 0 || end <= w || at >= w+8:
						if v != ctx(w) || e != api.OK {
							t.Fatal(at, size, fill, w, v, e)
						}
					case at <= w && end >= w+8:
						if v != number(0x0202020202020202) || e != api.OK {
							t.Fatal(at, size, fill, w, v, e)
						}
					case v != (region.Val{}) || e != api.EFAULT:
						t.Fatal(at, size, fill, w, v, e)
					}
				}
			}
		}
	}
}

// model is a memory told anew: of each byte of the stack what it is of.
type model struct {
	ctx   [32]byte
	stack map[int64]piece
}

// piece is a number's byte, or one of those of a place.
type piece struct {
	b     byte
	whole region.Val
	nth   int
}

func (m *model) load(at int64, size int) (region.Val, bool) {
	first, ok := m.stack[at]
	if ok && first.whole.Tag != region.None {
		return first.whole, size == 8 && first.nth == 0
	}
	b, ok := m.bytes(at, size)
	return number(lowest(b)), ok && size > 0
}

func (m *model) bytes(at int64, n int) ([]byte, bool) {
	var b []byte
	for i := range int64(n) {
		p, ok := m.stack[at+i]
		if !ok || p.whole.Tag != region.None {
			return nil, false
		}
		b = append(b, p.b)
	}
	return b, at >= -64 && at <= 0
}

func (m *model) fill(at int64, b []byte) bool {
	if at < -64 || at+int64(len(b)) > 0 {
		return false
	}
	for i, x := range b {
		m.drop(at + int64(i))
		m.stack[at+int64(i)] = piece{b: x}
	}
	return true
}

func (m *model) save(at int64, size int, v region.Val) bool {
	if v.Tag == region.Number {
		b := binary.LittleEndian.AppendUint64(nil, v.N)
		return m.fill(at, b[:size])
	}
	if size != 8 || at%8 != 0 || at < -64 || at > -8 {
		return false
	}
	for i := range int64(8) {
		m.drop(at + i)
		m.stack[at+i] = piece{whole: v, nth: int(i)}
	}
	return true
}

// drop lets a place go of which a byte is written over.
func (m *model) drop(at int64) {
	p := m.stack[at]
	if p.whole.Tag == region.None {
		return
	}
	for i := range int64(8) {
		delete(m.stack, at-int64(p.nth)+i)
	}
}

// P19.1: scripts of calls of the stack, held against a model that tells of each byte what it is of.
func TestScripts(t *testing.T) {
	chance := rand.New(rand.NewPCG(19, 1))
	_, c := hash(t, "abcdefgh")
	vals := []region.Val{ctx(3), stack(-8), cell(2, c, 1), {Tag: region.Map, Slot: 1}}
	for range 300 {
		m, want := region.New(context(), nil), &model{stack: map[int64]piece{}}
		for range 80 {
			at, size := int64(chance.IntN(70)-66), sizes[chance.IntN(4)]
			switch chance.IntN(6) {
			case 0, 1:
				v := number(chance.Uint64())
				if e := m.Save(stack(at-3), 3, size, v); (e == api.OK) != want.save(at, size, v) {
					t.Fatal(at, size, e)
				}
			case 2:
				at = int64(chance.IntN(8)-8) * 8
				v := vals[chance.IntN(len(vals))]
				if e := m.Save(stack(at+7), -7, 8, v); (e == api.OK) != want.save(at, 8, v) {
					t.Fatal(at, e)
				}
			case 3:
				b := make([]byte, chance.IntN(12))
				for i := range b {
					b[i] = byte(chance.Uint32())
				}
				if e := m.Fill(stack(at), b); (e == api.OK) != want.fill(at, b) {
					t.Fatal(at, b, e)
				}
			}
			look(t, m, want)
		}
	}
}

func look(t *testing.T, m *region.Memory, want *model) {
	t.Helper()
	for at := int64(-66); at < 3; at++ {
		for _, size := range sizes {
			v, ok := want.load(at, size)
			if !ok {
				v = region.Val{}
			}
			if got, e := m.Load(stack(at), 0, size); got != v || (e == api.OK) != ok {
				t.Fatal(at, size, got, e, v)
			}
		}
		for _, n := range []int{0, 3, 17} {
			b, ok := want.bytes(at, n)
			if got, e := m.Bytes(stack(at), n); !bytes.Equal(got, b) || (e == api.OK) != ok {
				t.Fatal(at, n, got, e, b)
			}
		}
	}
}

// P19.1: of no byte the place must be one, or the one right behind the last one.
func TestNoBytes(t *testing.T) {
	owner, c := hash(t, "abcdef")
	m := region.New(context(), []*bmap.Map{owner})
	for at := int64(-70); at < 40; at++ {
		for _, x := range []struct {
			at       region.Val
			from, to int64
			writable bool
		}{{ctx(at), 0, 32, false}, {stack(at), -64, 0, true}, {cell(0, c, at), 0, 6, true}} {
			there := at >= x.from && at <= x.to
			b, e := m.Bytes(x.at, 0)
			if len(b) != 0 || (e == api.OK) != there {
				t.Error(x.at, b, e)
			}
			for _, none := range [][]byte{nil, {}} {
				if e := m.Fill(x.at, none); (e == api.OK) != (there && x.writable) {
					t.Error(x.at, e)
				}
			}
		}
	}
	if _, e := m.Load(stack(-64), 0, 1); e != api.EFAULT {
		t.Error(e)
	}
}

// P19.1: Fill writes nothing where one byte can't be.
func TestFillThatIsRefused(t *testing.T) {
	owner, c := hash(t, "abcdef")
	m := region.New(context(), []*bmap.Map{owner})
	m.Save(stack(-8), 0, 8, ctx(1))
	if m.Fill(stack(-2), []byte{1, 2, 3}) != api.EFAULT || m.Fill(stack(-66), []byte{1, 2, 3}) != api.EFAULT || m.Fill(stack(-64), make([]byte, 65)) != api.EFAULT {
		t.Error("stack")
	}
	if v, e := m.Load(stack(-8), 0, 8); v != ctx(1) || e != api.OK {
		t.Error(v, e)
	}
	if _, e := m.Load(stack(-64), 0, 1); e != api.EFAULT {
		t.Error(e)
	}
	if m.Fill(cell(0, c, 4), []byte{1, 2, 3}) != api.EFAULT || m.Fill(cell(0, c, -1), []byte{1, 2, 3}) != api.EFAULT || string(c.B) != "abcdef" {
		t.Error(c.B)
	}
	if e := m.Fill(stack(-64), bytes.Repeat([]byte{3}, 64)); e != api.OK {
		t.Error(e)
	}
	if b, e := m.Bytes(stack(-64), 64); !bytes.Equal(b, bytes.Repeat([]byte{3}, 64)) || e != api.OK {
		t.Error(b, e)
	}
}

// P19.1: Map tells those that there are.
func TestMap(t *testing.T) {
	a, _ := hash(t, "a")
	b, _ := hash(t, "b")
	m := region.New(context(), []*bmap.Map{a, nil, b, a, b, a})
	for slot, want := range []*bmap.Map{a, nil, b, a, b, a, nil} {
		if m.Map(slot) != want {
			t.Error(slot)
		}
	}
	for _, slot := range []int{-1, 6, 7, 1 << 32, 1<<32 + 2, math.MinInt, math.MaxInt} {
		if m.Map(slot) != nil {
			t.Error(slot)
		}
	}
}

// P19.1: a nil memory has nothing; one that New hasn't made has a context of noughts, and no maps.
func TestOtherMemories(t *testing.T) {
	var none *region.Memory
	v, e1 := none.Load(ctx(0), 0, 1)
	b, e2 := none.Bytes(ctx(0), 1)
	if v != (region.Val{}) || b != nil || e1 != api.EFAULT || e2 != api.EFAULT || none.Map(0) != nil {
		t.Error(v, b, e1, e2)
	}
	if none.Save(stack(-8), 0, 8, number(1)) != api.EFAULT || none.Fill(stack(-8), nil) != api.EFAULT {
		t.Error("written")
	}
	bare := &region.Memory{}
	if v, e := bare.Load(ctx(0), 0, 8); v != number(0) || e != api.OK || bare.Map(0) != nil {
		t.Error(v, e)
	}
}

// P19.1: the example.
func TestExample(t *testing.T) {
	m := region.New([32]byte{}, nil)
	if e := m.Save(stack(0), -8, 8, number(5)); e != api.OK {
		t.Error(e)
	}
	if v, e := m.Load(stack(-8), 0, 2); v != number(5) || e != api.OK {
		t.Error(v, e)
	}
	if v, e := m.Load(stack(-16), 0, 2); v != (region.Val{}) || e != api.EFAULT {
		t.Error(v, e)
	}
}

// P19.2: what is handed in stays, and isn't kept; answers are new memory.
func TestNothingIsShared(t *testing.T) {
	a, c := hash(t, "abcdefgh")
	maps := []*bmap.Map{a, nil, a}
	list := maps[:1]
	m := region.New(context(), list)
	if maps[2] != a || m.Map(1) != nil {
		t.Error("spare room")
	}
	list[0] = nil
	if m.Map(0) != a {
		t.Error("the list is kept")
	}
	b := []byte{1, 2, 3, 4, 5, 6, 7, 8, 9}
	for _, at := range []region.Val{stack(-8), cell(0, c, 0)} {
		if e := m.Fill(at, b[:8]); e != api.OK || !bytes.Equal(b, []byte{1, 2, 3, 4, 5, 6, 7, 8, 9}) {
			t.Fatal(e, b)
		}
		b[0] = 77
		got, e := m.Bytes(at, 8)
		if e != api.OK || got[0] != 1 {
			t.Error(got, e)
		}
		got[1] = 77
		if v, e := m.Load(at, 0, 8); v != number(0x0807060504030201) || e != api.OK {
			t.Error(v, e)
		}
		if got = append(got[:4], 66, 66, 66, 66, 66); m.Save(at, 0, 1, number(1)) != api.OK || got[0] != 1 {
			t.Error(got)
		}
		b[0] = 1
	}
	got, _ := m.Bytes(ctx(0), 4)
	got[0]++
	if v, _ := m.Load(ctx(0), 0, 1); v != number(uint64(context()[0])) {
		t.Error(v)
	}
}

// P19.2: bytes that are a cell's own may be filled into it, further on.
func TestFillOfItself(t *testing.T) {
	a, c := hash(t, "abcdefgh")
	m := region.New(context(), []*bmap.Map{a})
	if e := m.Fill(cell(0, c, 2), c.B[:6]); e != api.OK || string(c.B) != "ababcdef" {
		t.Error(e, string(c.B))
	}
}
