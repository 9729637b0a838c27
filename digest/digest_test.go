package digest_test

import (
	"bytes"
	"crypto/sha256"
	"encoding/binary"
	"encoding/hex"
	"testing"

	"tipstaff/digest"
)

// text is bytes that differ from place to place, also between blocks.
func text(n int) []byte {
	b := make([]byte, n)
	for i := range b {
		b[i] = byte(i*7 + i/64 + 3)
	}
	return b
}

// roomy is a copy of b with spare room behind it that is filled by a sign.
func roomy(b []byte, room int) (whole, part []byte) {
	whole = append(bytes.Clone(b), bytes.Repeat([]byte{0xa5}, room)...)
	return whole, whole[:len(b)]
}

// P1.1: sums that FIPS 180-4 and its examples tell.
func TestSumOfKnownTexts(t *testing.T) {
	for _, c := range []struct{ text, want string }{
		{"", "e3b0c44298fc1c149afbf4c8996fb92427ae41e4649b934ca495991b7852b855"},
		{"abc", "ba7816bf8f01cfea414140de5dae2223b00361a396177a9cb410ff61f20015ad"},
		{"abcdbcdecdefdefgefghfghighijhijkijkljklmklmnlmnomnopnopq", "248d6a61d20638b8e5c026930c3e6039a33ce45964ff2167f6ecedd419db06c1"},
		{"abcdefghbcdefghicdefghijdefghijkefghijklfghijklmghijklmnhijklmnoijklmnopjklmnopqklmnopqrlmnopqrsmnopqrstnopqrstu", "cf5b16a778af8380036ce59e7b0492370b249b11e8f07a51afac45037afee9d1"},
		{string(bytes.Repeat([]byte("a"), 1000000)), "cdc76e5c9914fb9281a1c7e284d73e67f1809a48a497200e046d39ccc7112cd0"},
	} {
		if got := digest.Hex(digest.Sum([]byte(c.text))); got != c.want {
			t.Errorf("Sum of %d bytes: %s, not %s", len(c.text), got, c.want)
		}
	}
}

// P1.1: the edges are 55, 56, 63, 64 and so on: where the length still fits into a block, and where it doesn't.
func TestSumAtAllLengthsAroundBlocks(t *testing.T) {
	for n := range 400 {
		if got, want := digest.Sum(text(n)), sha256.Sum256(text(n)); got != want {
			t.Errorf("Sum of %d bytes: %x, not %x", n, got, want)
		}
	}
}

// P1.1: a count of bits that needs more than two of its bytes.
func TestSumOfLongText(t *testing.T) {
	for _, n := range []int{1<<13 - 1, 1 << 13, 1<<21 + 5} {
		if got, want := digest.Sum(text(n)), sha256.Sum256(text(n)); got != want {
			t.Errorf("Sum of %d bytes: %x, not %x", n, got, want)
		}
	}
}

func TestSumOfEachByte(t *testing.T) {
	for x := range 256 {
		b := []byte{byte(x)}
		if got, want := digest.Sum(b), sha256.Sum256(b); got != want {
			t.Errorf("Sum of byte %d: %x, not %x", x, got, want)
		}
	}
}

func TestSumOfNilIsThatOfNothing(t *testing.T) {
	if digest.Sum(nil) != digest.Sum([]byte{}) || digest.Sum(nil) != sha256.Sum256(nil) {
		t.Error("nil and empty differ")
	}
}

// laid is the text that Joined has as its sum.
func laid(parts [][]byte) []byte {
	var b []byte
	for _, p := range parts {
		b = binary.BigEndian.AppendUint64(b, uint64(len(p)))
		b = append(b, p...)
	}
	return b
}

// readAgain takes such a text apart.
func readAgain(b []byte) [][]byte {
	var parts [][]byte
	for len(b) > 0 {
		n := binary.BigEndian.Uint64(b)
		parts = append(parts, b[8:8+n])
		b = b[8+n:]
	}
	return parts
}

// P1.1, P1.2: the sum is that of a text from which the parts come back.
func TestJoined(t *testing.T) {
	lists := [][][]byte{
		{}, {{}}, {{}, {}}, {{1}, {2}}, {{}, {1}, {}}, {text(300)},
		{text(48)}, {text(47), {}}, {text(55), text(56), text(64)}, {text(65535), text(65536)},
	}
	for n := range 130 {
		lists = append(lists, [][]byte{text(n), text(130 - n)})
	}
	for _, parts := range lists {
		b := laid(parts)
		if got, want := digest.Joined(parts), sha256.Sum256(b); got != want {
			t.Errorf("Joined of %d parts with %d bytes: %x, not %x", len(parts), len(b), got, want)
		}
		again := readAgain(b)
		if len(again) != len(parts) {
			t.Fatalf("%d parts came back as %d", len(parts), len(again))
		}
		for i := range parts {
			if !bytes.Equal(parts[i], again[i]) {
				t.Errorf("part %d came back as another one", i)
			}
		}
	}
}

// P1.1: sums that were worked out apart from this program.
func TestJoinedOfKnownParts(t *testing.T) {
	for _, c := range []struct {
		parts [][]byte
		want  string
	}{
		{nil, "e3b0c44298fc1c149afbf4c8996fb92427ae41e4649b934ca495991b7852b855"},
		{[][]byte{nil}, "af5570f5a1810b7af78caf4bc70a660f0df51e42baf91d4de5b2328de0e83dfc"},
		{[][]byte{[]byte("a"), {}, []byte("bc")}, "fb9abcb07180be92066c09ce253c0a060e4634fe3accf064b556d89a691c8e5f"},
	} {
		if got := digest.Hex(digest.Joined(c.parts)); got != c.want {
			t.Errorf("Joined(%q): %s, not %s", c.parts, got, c.want)
		}
	}
}

// P1.2: other parts have other sums, even where the bytes behind one another are the same.
func TestJoinedTellsPartsApart(t *testing.T) {
	seen := map[[32]byte]int{}
	for i, parts := range [][][]byte{
		{}, {{}}, {{}, {}}, {[]byte("abc")}, {[]byte("ab"), []byte("c")}, {[]byte("a"), []byte("bc")},
		{[]byte("a"), []byte("b"), []byte("c")}, {{}, []byte("abc")}, {[]byte("abc"), {}}, {[]byte("a"), {}, []byte("bc")},
		{laid([][]byte{[]byte("abc")})}, {[]byte("abd")}, {[]byte("c"), []byte("ab")},
	} {
		s := digest.Joined(parts)
		if j, there := seen[s]; there {
			t.Errorf("lists %d and %d have one sum", j, i)
		}
		seen[s] = i
	}
}

// Nil and empty lists are one.
func TestJoinedOfNil(t *testing.T) {
	if digest.Joined(nil) != digest.Joined([][]byte{}) {
		t.Error("nil and no parts differ")
	}
	if digest.Joined([][]byte{nil, {1}}) != digest.Joined([][]byte{{}, {1}}) {
		t.Error("a nil part and an empty part differ")
	}
}

// P1.1
func TestHex(t *testing.T) {
	for start := range 256 {
		var s [32]byte
		for i := range s {
			s[i] = byte(start + i*i)
		}
		if got, want := digest.Hex(s), hex.EncodeToString(s[:]); got != want {
			t.Errorf("Hex(%v): %s, not %s", s, got, want)
		}
	}
	if got := digest.Hex([32]byte{0: 0x09, 1: 0xaf, 31: 0xf0}); got != "09af"+string(bytes.Repeat([]byte("0"), 58))+"f0" {
		t.Error(got)
	}
}

// P1.3: neither the bytes nor their spare room change.
func TestArgumentsStayAsTheyAre(t *testing.T) {
	for _, n := range []int{0, 1, 55, 56, 63, 64, 65, 128} {
		whole, part := roomy(text(n), 200)
		ahead := bytes.Clone(whole)
		digest.Sum(part)
		if !bytes.Equal(whole, ahead) {
			t.Errorf("Sum changed what it was given, of %d bytes", n)
		}
		list := make([][]byte, 2, 4)
		list[0], list[1] = part, part
		list[:4][2], list[:4][3] = []byte{7}, []byte{8}
		digest.Joined(list)
		if !bytes.Equal(whole, ahead) || len(list[0]) != n || len(list[1]) != n {
			t.Errorf("Joined changed what it was given, of %d bytes", n)
		}
		if !bytes.Equal(list[:4][2], []byte{7}) || !bytes.Equal(list[:4][3], []byte{8}) {
			t.Errorf("Joined changed the list's spare room, of %d bytes", n)
		}
	}
}

// P1.3: nothing is kept: what was summed ahead, or is changed behind a call, has no part in an answer.
func TestNothingIsKept(t *testing.T) {
	b := text(100)
	first, joined := digest.Sum(b), digest.Joined([][]byte{b, b})
	digest.Sum(text(33))
	digest.Joined([][]byte{text(1)})
	b[0] ^= 1
	if digest.Sum(b) == first || digest.Joined([][]byte{b, b}) == joined {
		t.Error("a changed byte doesn't change the sum")
	}
	b[0] ^= 1
	if digest.Sum(b) != first || digest.Joined([][]byte{b, b}) != joined {
		t.Error("the same bytes have another sum")
	}
}
