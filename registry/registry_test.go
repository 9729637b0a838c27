package registry_test

import (
	"bytes"
	"crypto/sha256"
	"math"
	"testing"

	"tipstaff/api"
	"tipstaff/lamport"
	"tipstaff/registry"
)

func seed(i int) []byte { return []byte{byte(i), 's'} }

func key(i int) [32]byte { return lamport.Key(seed(i)) }

func text() [32]byte { return sha256.Sum256([]byte("text")) }

// filled is a registry with the keys of the seeds 0 to n - 1.
func filled(t *testing.T, n int) *registry.Registry {
	t.Helper()
	r := registry.New()
	for i := range n {
		if e := r.Add(key(i)); e != api.OK {
			t.Fatalf("Add of key %d: %d", i, e)
		}
	}
	return r
}

// looks tells by all calls that ask what is in a registry.
func looks(t *testing.T, r *registry.Registry, keys int, spent ...int) {
	t.Helper()
	if r.Len() != keys {
		t.Errorf("Len: %d, not %d", r.Len(), keys)
	}
	gone := map[int]bool{}
	for _, i := range spent {
		gone[i] = true
	}
	for i := range keys {
		if r.Has(key(i)) == gone[i] {
			t.Errorf("Has of key %d: %v", i, !gone[i])
		}
		at, e := r.Find(text(), lamport.Sign(seed(i), text()))
		if gone[i] && (at != 0 || e != api.EKEYREJECTED) || !gone[i] && (at != i || e != api.OK) {
			t.Errorf("Find of key %d: %d, %d", i, at, e)
		}
	}
	if r.Has(key(keys)) {
		t.Errorf("Has of key %d, that isn't there", keys)
	}
}

// P3.1
func TestNew(t *testing.T) {
	r := registry.New()
	looks(t, r, 0)
	if at, e := r.Find(text(), lamport.Sign(seed(0), text())); at != 0 || e != api.EKEYREJECTED {
		t.Errorf("Find in none: %d, %d", at, e)
	}
	if e := r.Spend(0); e != api.ENOENT {
		t.Errorf("Spend in none: %d", e)
	}
	other := registry.New()
	if other.Add(key(0)); r.Len() != 0 || r.Has(key(0)) {
		t.Error("two registries have one key")
	}
}

// P3.1: the limit allows 32 keys, and not one more; a known key is told so first.
func TestAdd(t *testing.T) {
	r := filled(t, 31)
	if e := r.Add(key(30)); e != api.EEXIST {
		t.Errorf("Add again: %d", e)
	}
	looks(t, r, 31)
	if e := r.Add(key(31)); e != api.OK {
		t.Errorf("Add of the last one: %d", e)
	}
	looks(t, r, 32)
	if e := r.Add(key(32)); e != api.ENOSPC {
		t.Errorf("Add of one more: %d", e)
	}
	for i := range 32 {
		if e := r.Add(key(i)); e != api.EEXIST {
			t.Errorf("Add of key %d again, with all there: %d", i, e)
		}
	}
	looks(t, r, 32)
}

// A key of noughts is one like others, and isn't there ahead.
func TestAddOfNoughts(t *testing.T) {
	r := registry.New()
	if r.Has([32]byte{}) {
		t.Error("noughts are there ahead")
	}
	if e := r.Add([32]byte{}); e != api.OK || !r.Has([32]byte{}) || r.Len() != 1 {
		t.Errorf("Add of noughts: %d", e)
	}
	if e := r.Add([32]byte{}); e != api.EEXIST {
		t.Errorf("Add of noughts again: %d", e)
	}
	if e := r.Add([32]byte{31: 1}); e != api.OK || r.Len() != 2 {
		t.Errorf("Add of a key that differs in its last bit: %d", e)
	}
}

// P3.1: spent keys fill places still, and can't be let in again.
func TestAddBehindSpend(t *testing.T) {
	r := filled(t, 32)
	for i := range 32 {
		if e := r.Spend(i); e != api.OK {
			t.Errorf("Spend(%d): %d", i, e)
		}
	}
	for i := range 32 {
		if e := r.Add(key(i)); e != api.EEXIST {
			t.Errorf("Add of key %d, that is spent: %d", i, e)
		}
	}
	if e := r.Add(key(32)); e != api.ENOSPC {
		t.Errorf("Add beside spent ones: %d", e)
	}
	if r.Len() != 32 {
		t.Errorf("Len: %d", r.Len())
	}
}

// P3.1: the length is looked at first, whatever keys there are.
func TestFindOfAnotherLength(t *testing.T) {
	long := append(lamport.Sign(seed(1), text()), lamport.Sign(seed(1), text())...)
	spent := filled(t, 2)
	spent.Spend(0)
	spent.Spend(1)
	for _, r := range []*registry.Registry{registry.New(), filled(t, 2), spent} {
		for _, n := range []int{0, 1, 2047, 2049, 4096} {
			if at, e := r.Find(text(), long[:n]); at != 0 || e != api.EINVAL {
				t.Errorf("Find of %d bytes: %d, %d", n, at, e)
			}
		}
		if at, e := r.Find(text(), nil); at != 0 || e != api.EINVAL {
			t.Errorf("Find of nil: %d, %d", at, e)
		}
	}
}

// P3.1
func TestFindOfWhatFitsNone(t *testing.T) {
	r := filled(t, 3)
	turned := lamport.Sign(seed(1), text())
	turned[2047] ^= 1
	for name, s := range map[string][]byte{
		"of a key that isn't there": lamport.Sign(seed(9), text()),
		"of another sum":            lamport.Sign(seed(1), sha256.Sum256([]byte("another text"))),
		"with a turned bit":         turned,
		"of noughts":                make([]byte, 2048),
	} {
		if at, e := r.Find(text(), s); at != 0 || e != api.EKEYREJECTED {
			t.Errorf("Find of a signature %s: %d, %d", name, at, e)
		}
	}
	looks(t, r, 3)
}

// A sum with the same first 32 bits is signed likewise.
func TestFindOfASumThatBeginsAlike(t *testing.T) {
	r := filled(t, 3)
	near, far := text(), text()
	near[4] ^= 0x80
	far[3] ^= 1
	s := lamport.Sign(seed(2), text())
	if at, e := r.Find(near, s); at != 2 || e != api.OK {
		t.Errorf("bit 32 turned: %d, %d", at, e)
	}
	if at, e := r.Find(far, s); at != 0 || e != api.EKEYREJECTED {
		t.Errorf("bit 31 turned: %d, %d", at, e)
	}
}

// P3.1
func TestSpend(t *testing.T) {
	r := filled(t, 3)
	for _, i := range []int{3, 4, 31, 32, 33, -1, -2, math.MaxInt, math.MinInt} {
		if e := r.Spend(i); e != api.ENOENT {
			t.Errorf("Spend(%d): %d", i, e)
		}
	}
	looks(t, r, 3)
	if e := r.Spend(1); e != api.OK {
		t.Errorf("Spend(1): %d", e)
	}
	looks(t, r, 3, 1)
	if e := r.Spend(1); e != api.EKEYREJECTED {
		t.Errorf("Spend(1) again: %d", e)
	}
	looks(t, r, 3, 1)
	if e := r.Add(key(3)); e != api.OK {
		t.Errorf("Add behind Spend: %d", e)
	}
	looks(t, r, 4, 1)
	full := filled(t, 32)
	if e := full.Spend(32); e != api.ENOENT {
		t.Errorf("Spend(32) of 32: %d", e)
	}
	if e := full.Spend(31); e != api.OK {
		t.Errorf("Spend(31) of 32: %d", e)
	}
}

// P3.2: whatever comes behind, the key isn't found again.
func TestASpentKeyIsNeverFoundAgain(t *testing.T) {
	for spent := range 3 {
		r := filled(t, 3)
		if at, e := r.Find(text(), lamport.Sign(seed(spent), text())); at != spent || e != api.OK || r.Spend(at) != api.OK {
			t.Fatalf("Find: %d, %d", at, e)
		}
		steps := []func(){
			func() {},
			func() { r.Add(key(spent)) },
			func() { r.Spend(spent) },
			func() { r.Add(key(3)) },
			func() { r.Find(text(), lamport.Sign(seed(3), text())) },
			func() { r.Spend(3) },
			func() { r.Spend((spent + 1) % 3) },
			func() { r.Add(key(4)) },
		}
		for i, step := range steps {
			step()
			for _, sum := range [][32]byte{text(), sha256.Sum256([]byte("another text"))} {
				if at, e := r.Find(sum, lamport.Sign(seed(spent), sum)); at != 0 || e != api.EKEYREJECTED {
					t.Errorf("key %d behind step %d: %d, %d", spent, i, at, e)
				}
			}
			if r.Has(key(spent)) {
				t.Errorf("key %d is there behind step %d", spent, i)
			}
		}
		looks(t, r, 5, spent, (spent+1)%3, 3)
	}
}

// To find a key doesn't spend it.
func TestFindChangesNothing(t *testing.T) {
	r := filled(t, 2)
	s := lamport.Sign(seed(1), text())
	for range 3 {
		if at, e := r.Find(text(), s); at != 1 || e != api.OK {
			t.Errorf("Find: %d, %d", at, e)
		}
	}
	looks(t, r, 2)
}

// What is handed in isn't changed or kept.
func TestArgumentsStayAsTheyAre(t *testing.T) {
	r := filled(t, 2)
	whole := append(lamport.Sign(seed(1), text()), 1, 2, 3)
	ahead := bytes.Clone(whole)
	r.Find(text(), whole[:2048])
	r.Find([32]byte{}, whole[:2048])
	r.Find(text(), whole)
	if !bytes.Equal(whole, ahead) {
		t.Error("the signature changed")
	}
	clear(whole)
	looks(t, r, 2)
}

// P3.1, P1: a nil registry answers, too.
func TestNilRegistry(t *testing.T) {
	var r *registry.Registry
	if e := r.Add(key(0)); e != api.EINVAL {
		t.Errorf("Add: %d", e)
	}
	if r.Has(key(0)) || r.Has([32]byte{}) {
		t.Error("Has")
	}
	for _, s := range [][]byte{lamport.Sign(seed(0), text()), nil} {
		if at, e := r.Find(text(), s); at != 0 || e != api.EINVAL {
			t.Errorf("Find: %d, %d", at, e)
		}
	}
	for _, i := range []int{-1, 0, 1} {
		if e := r.Spend(i); e != api.EINVAL {
			t.Errorf("Spend(%d): %d", i, e)
		}
	}
	if r.Len() != 0 {
		t.Errorf("Len: %d", r.Len())
	}
}
