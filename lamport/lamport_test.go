package lamport_test

import (
	"bytes"
	"crypto/sha256"
	"encoding/binary"
	"encoding/hex"
	"testing"

	"tipstaff/api"
	"tipstaff/lamport"
)

const size = 2048

// The calls in other words, by the library's sums.

func secret(seed []byte, place, bit int) []byte {
	b := binary.BigEndian.AppendUint64(nil, uint64(len(seed)))
	b = append(b, seed...)
	b = binary.BigEndian.AppendUint64(b, 2)
	s := sha256.Sum256(append(b, byte(place), byte(bit)))
	return s[:]
}

func leaf(seed []byte, place, bit int) []byte {
	s := sha256.Sum256(secret(seed, place, bit))
	return s[:]
}

func key(seed []byte) [32]byte {
	var leaves []byte
	for place := 0; place < 32; place++ {
		leaves = append(leaves, leaf(seed, place, 0)...)
		leaves = append(leaves, leaf(seed, place, 1)...)
	}
	return sha256.Sum256(leaves)
}

func bit(sum [32]byte, place int) int {
	return int(binary.BigEndian.Uint32(sum[:]) >> (31 - place) & 1)
}

func sign(seed []byte, sum [32]byte) []byte {
	var s []byte
	for place := 0; place < 32; place++ {
		b := bit(sum, place)
		s = append(s, secret(seed, place, b)...)
		s = append(s, leaf(seed, place, 1-b)...)
	}
	return s
}

// own is the one key that a signature fits: the sum of its own leaves.
func own(sum [32]byte, signature []byte) [32]byte {
	var leaves []byte
	for place := 0; place < 32; place++ {
		pair := signature[64*place : 64*place+64]
		s := sha256.Sum256(pair[:32])
		if bit(sum, place) == 0 {
			leaves = append(append(leaves, s[:]...), pair[32:]...)
		} else {
			leaves = append(append(leaves, pair[32:]...), s[:]...)
		}
	}
	return sha256.Sum256(leaves)
}

func seeds() [][]byte {
	return [][]byte{nil, {}, {0}, []byte("seed"), bytes.Repeat([]byte{7}, 32), bytes.Repeat([]byte("long"), 300)}
}

func sums() [][32]byte {
	l := [][32]byte{{}, {0: 0x80}, {3: 1}, {4: 0xff}, {0: 1, 1: 2, 2: 4, 3: 8}}
	var ones [32]byte
	for i := range ones {
		ones[i] = 0xff
	}
	return append(l, ones, sha256.Sum256([]byte("text")), sha256.Sum256([]byte("another text")))
}

// P2.1
func TestKey(t *testing.T) {
	for _, seed := range seeds() {
		if got, want := lamport.Key(seed), key(seed); got != want {
			t.Errorf("Key(%q): %x, not %x", seed, got, want)
		}
	}
	if lamport.Key(nil) != lamport.Key([]byte{}) {
		t.Error("nil and empty seeds differ")
	}
}

// P2.1: values that were worked out apart from this program.
func TestKnownKeysAndSignatures(t *testing.T) {
	sum := sha256.Sum256([]byte("text"))
	for _, c := range []struct{ seed, key, signature string }{
		{"", "2a651cce668a42d8fbaeeaf7eb6577485cc0090d70e89357c46cf7d4978a46a3", "f861e825411bb4b5729434a38ef0093e8edbfd94e319cd2dbb78f7e4a2a8c770"},
		{"seed", "8e5dcb3e3604758520ee420146dc4e250cfb041728f0e9627aaa98b4479623cf", "f746300940cbd2d3ab1b9937b300465a8505bf859d7d78674430492fd51cfd69"},
	} {
		k := lamport.Key([]byte(c.seed))
		s := sha256.Sum256(lamport.Sign([]byte(c.seed), sum))
		if hex.EncodeToString(k[:]) != c.key || hex.EncodeToString(s[:]) != c.signature {
			t.Errorf("seed %q: %x, %x", c.seed, k, s)
		}
	}
}

// P2.1
func TestSign(t *testing.T) {
	for _, seed := range seeds() {
		for _, sum := range sums() {
			got := lamport.Sign(seed, sum)
			if len(got) != size || !bytes.Equal(got, sign(seed, sum)) {
				t.Errorf("Sign(%q, %x) is another one, of %d bytes", seed, sum, len(got))
			}
		}
	}
}

// P2.2
func TestWhatASeedSignsItsKeyVerifies(t *testing.T) {
	for _, seed := range seeds() {
		k := lamport.Key(seed)
		for _, sum := range sums() {
			if e := lamport.Verify(k, sum, lamport.Sign(seed, sum)); e != api.OK {
				t.Errorf("seed %q, sum %x: %d", seed, sum, e)
			}
		}
	}
}

func TestAnotherSeedsKeyRejects(t *testing.T) {
	sum := sha256.Sum256([]byte("text"))
	s := lamport.Sign([]byte("seed"), sum)
	for _, seed := range []string{"", "Seed", "seed\x00", "see"} {
		if e := lamport.Verify(lamport.Key([]byte(seed)), sum, s); e != api.EKEYREJECTED {
			t.Errorf("key of %q: %d", seed, e)
		}
	}
	k := lamport.Key([]byte("seed"))
	for i := range 256 {
		turned := k
		turned[i/8] ^= 1 << (i % 8)
		if e := lamport.Verify(turned, sum, s); e != api.EKEYREJECTED {
			t.Errorf("key with bit %d turned: %d", i, e)
		}
	}
}

// P2.1: EINVAL of every other length.
func TestSignaturesOfAnotherLength(t *testing.T) {
	sum := sha256.Sum256([]byte("text"))
	k, s := lamport.Key([]byte("seed")), lamport.Sign([]byte("seed"), sum)
	long := append(bytes.Clone(s), s...)
	for _, n := range []int{0, 1, 32, 63, 64, 1984, 2047, 2049, 2112, 4096} {
		if e := lamport.Verify(k, sum, long[:n]); e != api.EINVAL {
			t.Errorf("%d bytes: %d", n, e)
		}
	}
	if e := lamport.Verify(k, sum, nil); e != api.EINVAL {
		t.Errorf("nil: %d", e)
	}
	if e := lamport.Verify(k, sum, long[:size]); e != api.OK {
		t.Errorf("the right length: %d", e)
	}
}

// P2.3: each bit that is turned; and the key that the turned one's own leaves make is fitted.
func TestASignatureWithATurnedBit(t *testing.T) {
	sum := sha256.Sum256([]byte("text"))
	k, s := lamport.Key([]byte("seed")), lamport.Sign([]byte("seed"), sum)
	for i := range 8 * size {
		s[i/8] ^= 1 << (i % 8)
		if e := lamport.Verify(k, sum, s); e != api.EKEYREJECTED {
			t.Errorf("bit %d turned: %d", i, e)
		}
		if i%97 == 0 {
			if e := lamport.Verify(own(sum, s), sum, s); e != api.OK {
				t.Errorf("bit %d turned, by its own leaves: %d", i, e)
			}
		}
		s[i/8] ^= 1 << (i % 8)
	}
	if e := lamport.Verify(k, sum, s); e != api.OK {
		t.Errorf("turned back: %d", e)
	}
}

// P2.3: of a sum the first 32 bits count, each of them, and no others.
func TestASignatureHeldAgainstAnotherSum(t *testing.T) {
	for _, sum := range sums() {
		k, s := lamport.Key([]byte("seed")), lamport.Sign([]byte("seed"), sum)
		for i := range 256 {
			other := sum
			other[i/8] ^= 0x80 >> (i % 8)
			want := api.OK
			if i < 32 {
				want = api.EKEYREJECTED
			}
			if e := lamport.Verify(k, other, s); e != want {
				t.Errorf("sum %x with bit %d turned: %d", sum, i, e)
			}
			if e := lamport.Verify(own(other, s), other, s); e != api.OK {
				t.Errorf("sum %x with bit %d turned, by its own leaves: %d", sum, i, e)
			}
			if same := bytes.Equal(lamport.Sign([]byte("seed"), other), s); same != (i >= 32) {
				t.Errorf("sum %x with bit %d turned: same signature: %v", sum, i, same)
			}
		}
	}
}

// Bytes that are none's signature are looked at, too.
func TestASignatureOfWhatever(t *testing.T) {
	s := bytes.Repeat([]byte{0x5a}, size)
	sum := sha256.Sum256([]byte("text"))
	if e := lamport.Verify(lamport.Key([]byte("seed")), sum, s); e != api.EKEYREJECTED {
		t.Error(e)
	}
	if e := lamport.Verify([32]byte{}, sum, make([]byte, size)); e != api.EKEYREJECTED {
		t.Error(e)
	}
	if e := lamport.Verify(own(sum, s), sum, s); e != api.OK {
		t.Error(e)
	}
}

// P2.4
func TestArgumentsStayAsTheyAre(t *testing.T) {
	sum := sha256.Sum256([]byte("text"))
	seed := append(make([]byte, 0, 64), "seed and spare room behind it"...)
	ahead := bytes.Clone(seed)
	part := seed[:4]
	k := lamport.Key(part)
	s := lamport.Sign(part, sum)
	if !bytes.Equal(seed, ahead) {
		t.Error("the seed changed")
	}
	whole := append(bytes.Clone(s), bytes.Repeat([]byte{9}, 100)...)
	ahead = bytes.Clone(whole)
	lamport.Verify(k, sum, whole[:size])
	lamport.Verify(k, [32]byte{}, whole[:size])
	lamport.Verify(k, sum, whole[:size-1])
	if !bytes.Equal(whole, ahead) {
		t.Error("the signature changed")
	}
}

// P2.4
func TestAnswersAreNewMemory(t *testing.T) {
	sum := sha256.Sum256([]byte("text"))
	seed := []byte("seed")
	k := lamport.Key(seed)
	first := lamport.Sign(seed, sum)
	kept := bytes.Clone(first)
	clear(first[:cap(first)])
	if !bytes.Equal(seed, []byte("seed")) {
		t.Error("a signature shares the seed's memory")
	}
	second := lamport.Sign(seed, sum)
	if !bytes.Equal(second, kept) {
		t.Error("a signature shares memory with the one ahead")
	}
	clear(seed)
	lamport.Sign(seed, [32]byte{})
	if !bytes.Equal(second, kept) || lamport.Verify(k, sum, second) != api.OK {
		t.Error("a signature changed behind its call")
	}
}
