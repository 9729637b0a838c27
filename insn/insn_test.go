package insn_test

import (
	"bytes"
	"math"
	"slices"
	"testing"

	"tipstaff/api"
	"tipstaff/insn"
)

// known has the parts of each byte that isn't Bad, by RFC 9669's numbers.
func known() map[uint8]insn.Parts {
	all := map[uint8]insn.Parts{
		0x05: {Kind: insn.Always},
		0x85: {Kind: insn.Call},
		0x95: {Kind: insn.Exit},

		0x61: {Kind: insn.Load, Size: 4},
		0x69: {Kind: insn.Load, Size: 2},
		0x71: {Kind: insn.Load, Size: 1},
		0x79: {Kind: insn.Load, Size: 8},

		0x62: {Kind: insn.Store, Size: 4},
		0x6a: {Kind: insn.Store, Size: 2},
		0x72: {Kind: insn.Store, Size: 1},
		0x7a: {Kind: insn.Store, Size: 8},

		0x63: {Kind: insn.Store, Size: 4, Reg: true},
		0x6b: {Kind: insn.Store, Size: 2, Reg: true},
		0x73: {Kind: insn.Store, Size: 1, Reg: true},
		0x7b: {Kind: insn.Store, Size: 8, Reg: true},

		0xc3: {Kind: insn.Atomic, Size: 4, Reg: true},
		0xdb: {Kind: insn.Atomic, Size: 8, Reg: true},

		0x18: {Kind: insn.Wide, Size: 8},
		0x00: {Kind: insn.Second},
	}
	for _, row := range aluRows {
		row.fill(all, insn.ALU)
	}
	for _, row := range jumpRows {
		row.fill(all, insn.Jump)
	}
	return all
}

// family is the bytes of one operation: of 32 bits with a number, and with a register, and of 64 bits so. None is 0.
type family struct {
	op                               int
	number, register, long, longRegs uint8
}

func (f family) fill(all map[uint8]insn.Parts, kind int) {
	all[f.number] = insn.Parts{Kind: kind, Op: f.op}
	all[f.long] = insn.Parts{Kind: kind, Op: f.op, Long: true}
	if f.register != 0 {
		all[f.register] = insn.Parts{Kind: kind, Op: f.op, Reg: true}
		all[f.longRegs] = insn.Parts{Kind: kind, Op: f.op, Long: true, Reg: true}
	}
}

var aluRows = []family{
	{0, 0x04, 0x0c, 0x07, 0x0f},
	{1, 0x14, 0x1c, 0x17, 0x1f},
	{2, 0x24, 0x2c, 0x27, 0x2f},
	{3, 0x34, 0x3c, 0x37, 0x3f},
	{4, 0x44, 0x4c, 0x47, 0x4f},
	{5, 0x54, 0x5c, 0x57, 0x5f},
	{6, 0x64, 0x6c, 0x67, 0x6f},
	{7, 0x74, 0x7c, 0x77, 0x7f},
	{8, 0x84, 0, 0x87, 0},
	{9, 0x94, 0x9c, 0x97, 0x9f},
	{10, 0xa4, 0xac, 0xa7, 0xaf},
	{11, 0xb4, 0xbc, 0xb7, 0xbf},
	{12, 0xc4, 0xcc, 0xc7, 0xcf},
}

var jumpRows = []family{
	{1, 0x16, 0x1e, 0x15, 0x1d},
	{2, 0x26, 0x2e, 0x25, 0x2d},
	{3, 0x36, 0x3e, 0x35, 0x3d},
	{4, 0x46, 0x4e, 0x45, 0x4d},
	{5, 0x56, 0x5e, 0x55, 0x5d},
	{6, 0x66, 0x6e, 0x65, 0x6d},
	{7, 0x76, 0x7e, 0x75, 0x7d},
	{10, 0xa6, 0xae, 0xa5, 0xad},
	{11, 0xb6, 0xbe, 0xb5, 0xbd},
	{12, 0xc6, 0xce, 0xc5, 0xcd},
	{13, 0xd6, 0xde, 0xd5, 0xdd},
}

// several are n instructions that differ in all their fields.
func several(n int) []api.Insn {
	l := make([]api.Insn, n)
	for i := range l {
		l[i] = api.Insn{
			Op: uint8(i*37 + 1), Dst: uint8(i % 16), Src: uint8(i / 16 % 16),
			Off: int16(i*2503 - 20000), Imm: int32(i)*-2003000911 + 77,
		}
	}
	return l
}

// P4.1: kinds have the numbers that are given.
func TestKinds(t *testing.T) {
	for want, kind := range []int{
		insn.Bad, insn.ALU, insn.Jump, insn.Always, insn.Call, insn.Exit,
		insn.Load, insn.Store, insn.Atomic, insn.Wide, insn.Second,
	} {
		if kind != want {
			t.Errorf("kind %d has the number %d", want, kind)
		}
	}
}

// P4.1: the parts of all 256 bytes; those that aren't of RFC 9669's numbers here are Bad, and have nothing else.
func TestOfAllBytes(t *testing.T) {
	all := known()
	if len(all) != 50+44+19 {
		t.Fatalf("the test's own table has %d bytes", len(all))
	}
	for op := range 256 {
		if got, want := insn.Of(uint8(op)), all[uint8(op)]; got != want {
			t.Errorf("Of(%02x): %+v, not %+v", op, got, want)
		}
	}
}

// P4.1: bytes that are near to those that have a kind, one for each of the chapter's "Bad".
func TestOfBadBytes(t *testing.T) {
	for _, op := range []uint8{
		0xd4, 0xe7, 0xff, // ALU beyond arsh
		0x8c, 0x8f, // neg of a register
		0x06, 0x86, 0x96, // ways on that only 64 bits have
		0x0d, 0x8d, 0x9d, // and with a register
		0xe5, 0xfe, // beyond jsle
		0x01, 0x41, 0x81, 0xe1, 0xc1, 0xd9, 0xc2, 0xda, // memory in other ways
		0xcb, 0xd3, // of less than 4 bytes at once
		0x08, 0x10, 0x20, 0x38, 0x98, 0xf8, // neither Wide nor Second
	} {
		if got := insn.Of(op); got != (insn.Parts{}) {
			t.Errorf("Of(%02x): %+v", op, got)
		}
	}
}

// P4.1: which bytes of the eight have which field, with numbers at the ends of their ranges.
func TestEncodeAndDecodeKnownBytes(t *testing.T) {
	for _, c := range []struct {
		x api.Insn
		b []byte
	}{
		{api.Insn{}, []byte{0, 0, 0, 0, 0, 0, 0, 0}},
		{api.Insn{Op: 0xff}, []byte{0xff, 0, 0, 0, 0, 0, 0, 0}},
		{api.Insn{Dst: 15}, []byte{0, 0x0f, 0, 0, 0, 0, 0, 0}},
		{api.Insn{Src: 15}, []byte{0, 0xf0, 0, 0, 0, 0, 0, 0}},
		{api.Insn{Dst: 1, Src: 2}, []byte{0, 0x21, 0, 0, 0, 0, 0, 0}},
		{api.Insn{Off: 0x0102}, []byte{0, 0, 2, 1, 0, 0, 0, 0}},
		{api.Insn{Off: 0x0080}, []byte{0, 0, 0x80, 0, 0, 0, 0, 0}},
		{api.Insn{Off: -1}, []byte{0, 0, 0xff, 0xff, 0, 0, 0, 0}},
		{api.Insn{Off: math.MaxInt16}, []byte{0, 0, 0xff, 0x7f, 0, 0, 0, 0}},
		{api.Insn{Off: math.MinInt16}, []byte{0, 0, 0, 0x80, 0, 0, 0, 0}},
		{api.Insn{Imm: 0x01020304}, []byte{0, 0, 0, 0, 4, 3, 2, 1}},
		{api.Insn{Imm: 0x00808080}, []byte{0, 0, 0, 0, 0x80, 0x80, 0x80, 0}},
		{api.Insn{Imm: -1}, []byte{0, 0, 0, 0, 0xff, 0xff, 0xff, 0xff}},
		{api.Insn{Imm: math.MaxInt32}, []byte{0, 0, 0, 0, 0xff, 0xff, 0xff, 0x7f}},
		{api.Insn{Imm: math.MinInt32}, []byte{0, 0, 0, 0, 0, 0, 0, 0x80}},
	} {
		if got := insn.Encode([]api.Insn{c.x}); !bytes.Equal(got, c.b) {
			t.Errorf("Encode of %+v: %x, not %x", c.x, got, c.b)
		}
		if got, err := insn.Decode(c.b); err != api.OK || !slices.Equal(got, []api.Insn{c.x}) {
			t.Errorf("Decode of %x: %+v, %d, not %+v", c.b, got, err, c.x)
		}
	}
}

// P4.1: of Dst and Src the lower four bits, so that the one doesn't spill into the other.
func TestEncodeCutsRegisters(t *testing.T) {
	for _, c := range []struct{ dst, src, want uint8 }{
		{0x1a, 0, 0x0a}, {0, 0x13, 0x30}, {0xff, 0, 0x0f}, {0, 0xff, 0xf0}, {0x10, 0x10, 0}, {0xf5, 0xf6, 0x65},
	} {
		got := insn.Encode([]api.Insn{{Op: 0xbf, Dst: c.dst, Src: c.src}})
		if want := []byte{0xbf, c.want, 0, 0, 0, 0, 0, 0}; !bytes.Equal(got, want) {
			t.Errorf("Encode of Dst %x and Src %x: %x, not %x", c.dst, c.src, got, want)
		}
	}
}

// P4.1: all instructions stand one behind the other. Encode has no limit.
func TestEncodeOfSeveral(t *testing.T) {
	for _, n := range []int{0, 1, 2, api.MaxInsns, api.MaxInsns + 1, 1000} {
		l, want := several(n), []byte(nil)
		for _, x := range l {
			want = append(want, insn.Encode([]api.Insn{x})...)
		}
		if got := insn.Encode(l); len(got) != 8*n || !bytes.Equal(got, want) {
			t.Errorf("Encode of %d instructions: %x, not %x", n, got, want)
		}
	}
}

// P4.1: an empty text has no instruction, be it nil or not.
func TestNothing(t *testing.T) {
	for _, l := range [][]api.Insn{nil, {}} {
		if b := insn.Encode(l); len(b) != 0 {
			t.Errorf("Encode of nothing: %x", b)
		}
	}
	for _, b := range [][]byte{nil, {}} {
		if l, err := insn.Decode(b); len(l) != 0 || err != api.OK {
			t.Errorf("Decode of nothing: %+v, %d", l, err)
		}
	}
}

// P4.1: counts that aren't a multiple of 8 are looked for ahead of those that are too great.
func TestDecodeOfWrongCounts(t *testing.T) {
	const most = 8 * api.MaxInsns
	for _, c := range []struct {
		count int
		want  api.Errno
	}{
		{1, api.EINVAL}, {4, api.EINVAL}, {7, api.EINVAL}, {8, api.OK}, {9, api.EINVAL}, {15, api.EINVAL}, {16, api.OK},
		{most - 8, api.OK}, {most - 1, api.EINVAL}, {most, api.OK}, {most + 1, api.EINVAL}, {most + 7, api.EINVAL},
		{most + 8, api.E2BIG}, {most + 9, api.EINVAL}, {2 * most, api.E2BIG}, {2*most + 4, api.EINVAL},
	} {
		l, err := insn.Decode(make([]byte, c.count))
		if err != c.want {
			t.Errorf("Decode of %d bytes: %d, not %d", c.count, err, c.want)
		}
		if err != api.OK && len(l) != 0 || err == api.OK && len(l) != c.count/8 {
			t.Errorf("Decode of %d bytes: %d instructions, %d", c.count, len(l), err)
		}
	}
}

// P4.2: instructions come back from their bytes.
func TestInstructionsComeBack(t *testing.T) {
	for _, n := range []int{1, 2, 3, api.MaxInsns} {
		l := several(n)
		if got, err := insn.Decode(insn.Encode(l)); err != api.OK || !slices.Equal(got, l) {
			t.Errorf("%d instructions don't come back: %+v, %d", n, got, err)
		}
	}
	for dst := range uint8(16) {
		for src := range uint8(16) {
			l := []api.Insn{{Op: 0x79, Dst: dst, Src: src, Off: -3, Imm: 9}}
			if got, err := insn.Decode(insn.Encode(l)); err != api.OK || !slices.Equal(got, l) {
				t.Errorf("%+v doesn't come back: %+v, %d", l, got, err)
			}
		}
	}
}

// P4.2: bytes come back from their instructions: each value at each of the eight places.
func TestBytesComeBack(t *testing.T) {
	for place := range 16 {
		for value := range 256 {
			b := []byte{1, 2, 3, 4, 5, 6, 7, 8, 9, 10, 11, 12, 13, 14, 15, 16}
			b[place] = byte(value)
			l, err := insn.Decode(b)
			if got := insn.Encode(l); err != api.OK || !bytes.Equal(got, b) {
				t.Errorf("%x doesn't come back: %x, %d", b, got, err)
			}
		}
	}
}

// P4.3: neither what is handed in changes, nor its spare room.
func TestArgumentsStay(t *testing.T) {
	whole := several(20)
	kept := slices.Clone(whole)
	b := insn.Encode(whole[:10])
	if !slices.Equal(whole, kept) {
		t.Error("Encode changed its instructions, or what is behind them")
	}
	room := append(slices.Clone(b), bytes.Repeat([]byte{0xa5}, 40)...)
	keptBytes := slices.Clone(room)
	for _, n := range []int{80, 79} {
		insn.Decode(room[:n])
		if !bytes.Equal(room, keptBytes) {
			t.Error("Decode changed its bytes, or what is behind them")
		}
	}
}

// P4.3: answers are new memory, and don't change with what was handed in.
func TestAnswersAreNew(t *testing.T) {
	l := several(4)
	b, again := insn.Encode(l), insn.Encode(l)
	want := slices.Clone(again)
	clear(b[:cap(b)])
	clear(l)
	if !bytes.Equal(again, want) {
		t.Error("Encode's answers share memory")
	}
	got, other := decoded(t, again), decoded(t, again)
	wanted := slices.Clone(other)
	clear(got[:cap(got)])
	clear(again)
	if !slices.Equal(other, wanted) || !slices.Equal(other, several(4)) {
		t.Error("Decode's answers share memory")
	}
}

func decoded(t *testing.T, b []byte) []api.Insn {
	t.Helper()
	l, err := insn.Decode(b)
	if err != api.OK {
		t.Fatalf("Decode of %x: %d", b, err)
	}
	return l
}
