package bmap_test

import (
	"bytes"
	"crypto/sha256"
	"encoding/binary"
	"math"
	"strconv"
	"strings"
	"testing"

	"tipstaff/api"
	"tipstaff/bmap"
)

func made(t *testing.T, s bmap.Spec) *bmap.Map {
	t.Helper()
	m, e := bmap.New(s)
	if m == nil || e != api.OK {
		t.Fatalf("New(%v): %v, %d", s, m, e)
	}
	return m
}

// put gives a key a value, that must go.
func put(t *testing.T, m *bmap.Map, key, value string) {
	t.Helper()
	if e := m.Update([]byte(key), []byte(value), 0); e != api.OK {
		t.Fatalf("Update(%q, %q): %d", key, value, e)
	}
}

func push(t *testing.T, m *bmap.Map, values ...string) {
	t.Helper()
	for _, v := range values {
		if e := m.Push([]byte(v), 0); e != api.OK {
			t.Fatalf("Push(%q): %d", v, e)
		}
	}
}

// has tells that a key's value is that, by both calls that ask.
func has(t *testing.T, m *bmap.Map, key, value string) {
	t.Helper()
	if v, e := m.Lookup([]byte(key)); string(v) != value || e != api.OK {
		t.Errorf("Lookup(%q): %q, %d, not %q", key, v, e, value)
	}
	if c, e := m.Cell([]byte(key)); c == nil || string(c.B) != value || e != api.OK {
		t.Errorf("Cell(%q): %v, %d, not %q", key, c, e, value)
	}
}

// hasnt tells that both calls that ask refuse a key with an error.
func hasnt(t *testing.T, m *bmap.Map, key string, err api.Errno) {
	t.Helper()
	if v, e := m.Lookup([]byte(key)); len(v) != 0 || e != err {
		t.Errorf("Lookup(%q): %q, %d, not %d", key, v, e, err)
	}
	if c, e := m.Cell([]byte(key)); c != nil || e != err {
		t.Errorf("Cell(%q): %v, %d, not %d", key, c, e, err)
	}
}

// refused tells that a call has that error, and that the map's entries are what they were.
func refused(t *testing.T, m *bmap.Map, name string, err api.Errno, call func() api.Errno) {
	t.Helper()
	sum, count, frozen := m.Sum(), m.Len(), m.Frozen()
	if e := call(); e != err {
		t.Errorf("%s: %d, not %d", name, e, err)
	}
	if m.Sum() != sum || m.Len() != count || m.Frozen() != frozen {
		t.Errorf("%s: the map changed", name)
	}
}

func updateRefused(t *testing.T, m *bmap.Map, key, value string, flags uint64, err api.Errno) {
	t.Helper()
	refused(t, m, "Update("+strconv.Quote(key)+")", err, func() api.Errno { return m.Update([]byte(key), []byte(value), flags) })
}

func deleteRefused(t *testing.T, m *bmap.Map, key string, err api.Errno) {
	t.Helper()
	refused(t, m, "Delete("+strconv.Quote(key)+")", err, func() api.Errno { return m.Delete([]byte(key)) })
}

func pushRefused(t *testing.T, m *bmap.Map, value string, flags uint64, err api.Errno) {
	t.Helper()
	refused(t, m, "Push("+strconv.Quote(value)+")", err, func() api.Errno { return m.Push([]byte(value), flags) })
}

func popRefused(t *testing.T, m *bmap.Map, err api.Errno) {
	t.Helper()
	refused(t, m, "Pop", err, func() api.Errno {
		v, e := m.Pop()
		if len(v) != 0 {
			t.Errorf("Pop: %q", v)
		}
		return e
	})
}

func peekRefused(t *testing.T, m *bmap.Map, err api.Errno) {
	t.Helper()
	refused(t, m, "Peek", err, func() api.Errno {
		v, e := m.Peek()
		if len(v) != 0 {
			t.Errorf("Peek: %q", v)
		}
		return e
	})
}

// index is a number in 4 bytes, the lowest first.
func index(n uint32) string {
	return string(binary.LittleEndian.AppendUint32(nil, n))
}

// sum is what the document says of Sum, in other words: parts are keys and values by turns.
func sum(s bmap.Spec, parts ...string) [32]byte {
	text := ""
	for _, part := range append([]string{string([]byte{byte(s.Type), byte(s.Key), byte(s.Value), byte(s.Entries)})}, parts...) {
		text += string(binary.BigEndian.AppendUint64(nil, uint64(len(part)))) + part
	}
	return sha256.Sum256([]byte(text))
}

// kinds is a Spec of each type, with keys and values of few bytes.
func kinds() []bmap.Spec {
	return []bmap.Spec{
		{Type: api.Array, Key: 4, Value: 2, Entries: 3},
		{Type: api.Hash, Key: 2, Value: 2, Entries: 3},
		{Type: api.LRU, Key: 2, Value: 2, Entries: 3},
		{Type: api.Queue, Value: 2, Entries: 3},
		{Type: api.Stack, Value: 2, Entries: 3},
		{Type: api.Prefix, Key: 6, Value: 2, Entries: 3},
	}
}

func isLine(s bmap.Spec) bool { return s.Type == api.Queue || s.Type == api.Stack }

// keyFor is the i-th key (0 to 2) of a map of one of the kinds.
func keyFor(s bmap.Spec, i int) string {
	switch s.Type {
	case api.Array:
		return index(uint32(i))
	case api.Prefix:
		return index(16) + string([]byte{byte(i), 1})
	}
	return string([]byte{byte(i), 1})
}

// fill puts n values in: of a Queue or a Stack without keys.
func fill(t *testing.T, m *bmap.Map, n int) {
	t.Helper()
	for i := range n {
		if isLine(m.Spec()) {
			push(t, m, string([]byte{byte(i), 9}))
		} else {
			put(t, m, keyFor(m.Spec(), i), string([]byte{byte(i), 9}))
		}
	}
}

// P9.1: each type with all sizes about its limits.
func TestCheckAndNew(t *testing.T) {
	least := map[int]int{api.Array: 4, api.Hash: 1, api.LRU: 1, api.Queue: 0, api.Stack: 0, api.Prefix: 5}
	most := map[int]int{api.Array: 4, api.Hash: 16, api.LRU: 16, api.Queue: 0, api.Stack: 0, api.Prefix: 16}
	ends := []int{math.MinInt, -1, 0, 1, 2, 63, 64, 65, 256, 257, math.MaxInt}
	for kind := -2; kind <= 8; kind++ {
		for key := -2; key <= 20; key++ {
			for _, value := range ends {
				for _, entries := range ends {
					s := bmap.Spec{Type: kind, Key: key, Value: value, Entries: entries}
					_, known := least[kind]
					looksNew(t, s, known && key >= least[kind] && key <= most[kind] && value >= 1 && value <= 64 && entries >= 1 && entries <= 64)
				}
			}
		}
	}
	for _, far := range []int{math.MinInt, math.MaxInt, 1 << 32, 1<<32 + 1, 256} {
		looksNew(t, bmap.Spec{Type: far, Key: 4, Value: 1, Entries: 1}, false)
		looksNew(t, bmap.Spec{Type: api.Hash, Key: far, Value: 1, Entries: 1}, false)
		looksNew(t, bmap.Spec{Type: api.Queue, Key: far, Value: 1, Entries: 1}, false)
	}
}

func looksNew(t *testing.T, s bmap.Spec, in bool) {
	t.Helper()
	m, e := bmap.New(s)
	if check := bmap.Check(s); check != e {
		t.Errorf("Check(%v): %d, New: %d", s, check, e)
	}
	if !in {
		if m != nil || e != api.EINVAL {
			t.Errorf("New(%v): %v, %d", s, m, e)
		}
		return
	}
	if m == nil || e != api.OK {
		t.Errorf("New(%v): %v, %d", s, m, e)
		return
	}
	count := 0
	if s.Type == api.Array {
		count = s.Entries
	}
	if m.Spec() != s || m.Len() != count || m.Frozen() {
		t.Errorf("New(%v): %v, %d, %v", s, m.Spec(), m.Len(), m.Frozen())
	}
}

// P9.1: an Array has all entries from the beginning on, and just those.
func TestArray(t *testing.T) {
	m := made(t, bmap.Spec{Type: api.Array, Key: 4, Value: 3, Entries: 64})
	for n := range uint32(64) {
		has(t, m, index(n), "\x00\x00\x00")
	}
	for n := range uint32(64) {
		for _, flags := range []uint64{0, 2} {
			if e := m.Update([]byte(index(n)), []byte{byte(n), 1, byte(flags)}, flags); e != api.OK {
				t.Errorf("Update(%d): %d", n, e)
			}
			has(t, m, index(n), string([]byte{byte(n), 1, byte(flags)}))
		}
		updateRefused(t, m, index(n), "abc", 1, api.EEXIST)
		deleteRefused(t, m, index(n), api.EINVAL)
	}
	for n := range uint32(64) {
		has(t, m, index(n), string([]byte{byte(n), 1, 2}))
	}
	for _, n := range []uint32{64, 65, 256, 1 << 16, 1<<16 + 1, 1 << 24, 1<<31 - 1, 1 << 31, 1<<32 - 1} {
		hasnt(t, m, index(n), api.ENOENT)
		for flags := range uint64(3) {
			updateRefused(t, m, index(n), "abc", flags, api.E2BIG)
		}
		updateRefused(t, m, index(n), "abc", 3, api.EINVAL)
		updateRefused(t, m, index(n), "ab", 0, api.EINVAL)
		deleteRefused(t, m, index(n), api.EINVAL)
	}
	if m.Len() != 64 {
		t.Errorf("Len: %d", m.Len())
	}
	one := made(t, bmap.Spec{Type: api.Array, Key: 4, Value: 1, Entries: 1})
	has(t, one, index(0), "\x00")
	hasnt(t, one, index(1), api.ENOENT)
}

// P9.1: flags, and as many entries as the Spec says, and not one more.
func TestHash(t *testing.T) {
	for _, entries := range []int{1, 2, 63, 64} {
		m := made(t, bmap.Spec{Type: api.Hash, Key: 1, Value: 1, Entries: entries})
		for i := range entries {
			key := string([]byte{byte(200 - i)})
			hasnt(t, m, key, api.ENOENT)
			updateRefused(t, m, key, "a", 2, api.ENOENT)
			if e := m.Update([]byte(key), []byte("a"), uint64(i%2)); e != api.OK || m.Len() != i+1 {
				t.Errorf("Update %d: %d, %d", i, e, m.Len())
			}
			updateRefused(t, m, key, "b", 1, api.EEXIST)
			has(t, m, key, "a")
			if e := m.Update([]byte(key), []byte{byte(i)}, uint64(2*(i%2))); e != api.OK || m.Len() != i+1 {
				t.Errorf("Update %d again: %d, %d", i, e, m.Len())
			}
			has(t, m, key, string([]byte{byte(i)}))
		}
		updateRefused(t, m, "a", "a", 0, api.E2BIG)
		updateRefused(t, m, "a", "a", 1, api.E2BIG)
		updateRefused(t, m, "a", "a", 2, api.ENOENT)
		if e := m.Delete([]byte{200}); e != api.OK || m.Len() != entries-1 {
			t.Errorf("Delete: %d, %d", e, m.Len())
		}
		hasnt(t, m, "\xc8", api.ENOENT)
		deleteRefused(t, m, "\xc8", api.ENOENT)
		put(t, m, "a", "z")
		for i := 1; i < entries; i++ {
			has(t, m, string([]byte{byte(200 - i)}), string([]byte{byte(i)}))
		}
		has(t, m, "a", "z")
	}
}

// P9.1: all bytes of a key count, noughts among them.
func TestKeysThatAreAlike(t *testing.T) {
	for _, kind := range []int{api.Hash, api.LRU} {
		m := made(t, bmap.Spec{Type: kind, Key: 16, Value: 64, Entries: 64})
		value := func(i int) string { return strings.Repeat(string([]byte{byte(i)}), 64) }
		keys := []string{strings.Repeat("\x00", 16)}
		for i := range 16 {
			key := make([]byte, 16)
			key[i] = 1
			keys = append(keys, string(key))
		}
		for i, key := range keys {
			put(t, m, key, value(i))
		}
		for i, key := range keys {
			has(t, m, key, value(i))
		}
		if m.Len() != len(keys) {
			t.Errorf("Len: %d", m.Len())
		}
	}
}

// P9.1: what is wrong of a key, a value or the flags, of all types; each refusal changes nothing.
func TestWrongArguments(t *testing.T) {
	for _, s := range kinds() {
		m := made(t, s)
		fill(t, m, 2)
		for n := range 20 {
			key := strings.Repeat("\x01", n)
			if n == s.Key && s.Type != api.Prefix && !isLine(s) {
				continue
			}
			hasnt(t, m, key, api.EINVAL)
			updateRefused(t, m, key, "ab", 0, api.EINVAL)
			updateRefused(t, m, key, "ab", 2, api.EINVAL)
			deleteRefused(t, m, key, api.EINVAL)
		}
		if isLine(s) {
			continue
		}
		for i := range 3 {
			for _, value := range []string{"", "a", "abc", strings.Repeat("a", 1000)} {
				updateRefused(t, m, keyFor(s, i), value, 0, api.EINVAL)
				updateRefused(t, m, keyFor(s, i), value, 1, api.EINVAL)
				updateRefused(t, m, keyFor(s, i), value, 2, api.EINVAL)
			}
			for _, flags := range []uint64{3, 4, 1 << 8, 1 << 32, 1<<32 + 1, 1 << 63, math.MaxUint64} {
				updateRefused(t, m, keyFor(s, i), "ab", flags, api.EINVAL)
			}
		}
		pushRefused(t, m, "ab", 0, api.EINVAL)
		popRefused(t, m, api.EINVAL)
		peekRefused(t, m, api.EINVAL)
	}
}

// P9.1: each call that uses an entry of an LRU, and those that don't: which one goes then?
func TestLruUse(t *testing.T) {
	for name, c := range map[string]struct {
		call func(m *bmap.Map)
		gone string
	}{
		"nothing":          {func(m *bmap.Map) {}, "a"},
		"Lookup":           {func(m *bmap.Map) { m.Lookup([]byte("a")) }, "b"},
		"Cell":             {func(m *bmap.Map) { m.Cell([]byte("a")) }, "b"},
		"Update":           {func(m *bmap.Map) { m.Update([]byte("a"), []byte("1"), 0) }, "b"},
		"Update, flags 2":  {func(m *bmap.Map) { m.Update([]byte("a"), []byte("1"), 2) }, "b"},
		"Update refused":   {func(m *bmap.Map) { m.Update([]byte("a"), []byte("1"), 1) }, "a"},
		"Update wrong":     {func(m *bmap.Map) { m.Update([]byte("a"), []byte("12"), 0) }, "a"},
		"Lookup of none":   {func(m *bmap.Map) { m.Lookup([]byte("z")) }, "a"},
		"Lookup of all":    {func(m *bmap.Map) { m.Lookup([]byte("c")); m.Lookup([]byte("b")); m.Lookup([]byte("a")) }, "c"},
		"Sum, Len":         {func(m *bmap.Map) { m.Sum(); m.Len() }, "a"},
		"Lookup of a last": {func(m *bmap.Map) { m.Lookup([]byte("b")); m.Lookup([]byte("a")) }, "c"},
		"a new one of one that went": {func(m *bmap.Map) {
			m.Delete([]byte("a"))
			m.Update([]byte("a"), []byte("1"), 0)
		}, "b"},
	} {
		m := made(t, bmap.Spec{Type: api.LRU, Key: 1, Value: 1, Entries: 3})
		put(t, m, "a", "1")
		put(t, m, "b", "2")
		put(t, m, "c", "3")
		c.call(m)
		if e := m.Update([]byte("d"), []byte("4"), 1); e != api.OK || m.Len() != 3 {
			t.Errorf("%s: Update: %d, %d", name, e, m.Len())
		}
		for key, value := range map[string]string{"a": "1", "b": "2", "c": "3", "d": "4"} {
			if key == c.gone {
				hasnt(t, m, key, api.ENOENT)
			} else {
				has(t, m, key, value)
			}
		}
	}
}

// P9.1: an LRU takes new entries for ever, but none by flags 2; with room left none goes.
func TestLruIsNeverFull(t *testing.T) {
	for _, entries := range []int{1, 2, 64} {
		m := made(t, bmap.Spec{Type: api.LRU, Key: 1, Value: 1, Entries: entries})
		for i := range 200 {
			key := string([]byte{byte(i)})
			updateRefused(t, m, key, "a", 2, api.ENOENT)
			put(t, m, key, key)
			if m.Len() != min(i+1, entries) {
				t.Fatalf("Len: %d behind %d", m.Len(), i+1)
			}
			if i >= entries {
				hasnt(t, m, string([]byte{byte(i - entries)}), api.ENOENT)
			}
		}
		for i := 200 - entries; i < 200; i++ {
			has(t, m, string([]byte{byte(i)}), string([]byte{byte(i)}))
		}
	}
}

// P9.1: a Delete makes room: nothing else goes for the next entry.
func TestLruDelete(t *testing.T) {
	m := made(t, bmap.Spec{Type: api.LRU, Key: 1, Value: 1, Entries: 2})
	put(t, m, "a", "1")
	put(t, m, "b", "2")
	if e := m.Delete([]byte("b")); e != api.OK || m.Len() != 1 {
		t.Errorf("Delete: %d", e)
	}
	deleteRefused(t, m, "b", api.ENOENT)
	put(t, m, "c", "3")
	has(t, m, "a", "1")
	has(t, m, "c", "3")
}

// P9.1: of each number of bits whether it is a key, and which of its bits count.
func TestPrefixBits(t *testing.T) {
	for _, size := range []int{5, 6, 16} {
		for bits := 0; bits <= 8*(size-4); bits++ {
			m := made(t, bmap.Spec{Type: api.Prefix, Key: size, Value: 1, Entries: 64})
			put(t, m, index(uint32(bits))+strings.Repeat("\xff", size-4), "a")
			for turned := range 8 * (size - 4) {
				b := bytes.Repeat([]byte{0xff}, size-4)
				b[turned/8] ^= 0x80 >> (turned % 8)
				whole := index(uint32(8*(size-4))) + string(b)
				same := index(uint32(bits)) + string(b)
				if turned < bits {
					hasnt(t, m, whole, api.ENOENT)
					deleteRefused(t, m, same, api.ENOENT)
					updateRefused(t, m, same, "b", 2, api.ENOENT)
				} else {
					has(t, m, whole, "a")
					updateRefused(t, m, same, "b", 1, api.EEXIST)
				}
			}
		}
		m := made(t, bmap.Spec{Type: api.Prefix, Key: size, Value: 1, Entries: 64})
		put(t, m, index(0)+strings.Repeat("a", size-4), "a")
		for _, bits := range []uint32{uint32(8*(size-4) + 1), 97, 128, 256, 1 << 16, 1 << 24, 1<<31 - 1, 1 << 31, 1<<32 - 1} {
			key := index(bits) + strings.Repeat("a", size-4)
			hasnt(t, m, key, api.EINVAL)
			deleteRefused(t, m, key, api.EINVAL)
			for flags := range uint64(3) {
				updateRefused(t, m, key, "b", flags, api.EINVAL)
			}
		}
	}
}

// P9.1: the entry with the most bits, but no more than the key has.
func TestPrefixNearest(t *testing.T) {
	m := made(t, bmap.Spec{Type: api.Prefix, Key: 6, Value: 1, Entries: 64})
	key := func(bits uint32, a, b byte) string { return index(bits) + string([]byte{a, b}) }
	hasnt(t, m, key(16, 10, 0x4f), api.ENOENT)
	put(t, m, key(12, 10, 0x4f), "c")
	put(t, m, key(16, 10, 0x4f), "d")
	put(t, m, key(8, 10, 0xff), "b")
	for _, c := range []struct{ key, value string }{
		{key(16, 10, 0x4f), "d"},
		{key(16, 10, 0x4e), "c"},
		{key(15, 10, 0x4f), "c"},
		{key(12, 10, 0x4f), "c"},
		{key(12, 10, 0x40), "c"},
		{key(11, 10, 0x4f), "b"},
		{key(16, 10, 0x5f), "b"},
		{key(8, 10, 0x4f), "b"},
	} {
		has(t, m, c.key, c.value)
	}
	for _, missing := range []string{key(7, 10, 0x4f), key(0, 10, 0x4f), key(16, 11, 0x4f), key(16, 0, 0)} {
		hasnt(t, m, missing, api.ENOENT)
	}
	put(t, m, key(0, 10, 0x4f), "a")
	has(t, m, key(7, 10, 0x4f), "a")
	has(t, m, key(0, 255, 255), "a")
	has(t, m, key(16, 11, 0x4f), "a")
	if e := m.Delete([]byte(key(12, 10, 0x43))); e != api.OK || m.Len() != 3 {
		t.Errorf("Delete: %d, %d", e, m.Len())
	}
	has(t, m, key(16, 10, 0x4e), "b")
	has(t, m, key(16, 10, 0x4f), "d")
}

// P9.1: Update and Delete want just that key, though another entry would be found by it.
func TestPrefixJustThatKey(t *testing.T) {
	m := made(t, bmap.Spec{Type: api.Prefix, Key: 5, Value: 1, Entries: 2})
	short, long, other := index(4)+"\xa0", index(8)+"\xa5", index(8)+"\xa6"
	put(t, m, short, "a")
	deleteRefused(t, m, long, api.ENOENT)
	updateRefused(t, m, long, "b", 2, api.ENOENT)
	if e := m.Update([]byte(long), []byte("b"), 1); e != api.OK || m.Len() != 2 {
		t.Errorf("Update: %d, %d", e, m.Len())
	}
	updateRefused(t, m, other, "c", 0, api.E2BIG)
	updateRefused(t, m, other, "c", 1, api.E2BIG)
	updateRefused(t, m, other, "c", 2, api.ENOENT)
	has(t, m, other, "a")
	put(t, m, index(4)+"\xaf", "z")
	has(t, m, other, "z")
	has(t, m, long, "b")
	if m.Len() != 2 {
		t.Errorf("Len: %d", m.Len())
	}
}

// P9.1: in which order values come out, and as many as the Spec says, and not one more.
func TestQueueAndStack(t *testing.T) {
	for _, kind := range []int{api.Queue, api.Stack} {
		for _, entries := range []int{1, 2, 63, 64} {
			m := made(t, bmap.Spec{Type: kind, Value: 1, Entries: entries})
			peekRefused(t, m, api.ENOENT)
			popRefused(t, m, api.ENOENT)
			for i := range entries {
				push(t, m, string([]byte{byte(i)}))
			}
			pushRefused(t, m, "a", 0, api.E2BIG)
			pushRefused(t, m, "", 0, api.EINVAL)
			pushRefused(t, m, "ab", 0, api.EINVAL)
			for _, flags := range []uint64{1, 2, 1 << 32, math.MaxUint64} {
				pushRefused(t, m, "a", flags, api.EINVAL)
			}
			for i := range entries {
				want := byte(i)
				if kind == api.Stack {
					want = byte(entries - 1 - i)
				}
				if v, e := m.Peek(); !bytes.Equal(v, []byte{want}) || e != api.OK || m.Len() != entries-i {
					t.Errorf("Peek: %d, %d, not %d", v, e, want)
				}
				if v, e := m.Pop(); !bytes.Equal(v, []byte{want}) || e != api.OK || m.Len() != entries-i-1 {
					t.Errorf("Pop: %d, %d, not %d", v, e, want)
				}
			}
			peekRefused(t, m, api.ENOENT)
			popRefused(t, m, api.ENOENT)
		}
	}
}

// P9.1: values pushed between others that go.
func TestPushBetweenPops(t *testing.T) {
	for kind, want := range map[int]string{api.Queue: "abcde", api.Stack: "bdeca"} {
		m := made(t, bmap.Spec{Type: kind, Value: 1, Entries: 3})
		got := ""
		pop := func() {
			v, _ := m.Pop()
			got += string(v)
		}
		push(t, m, "a", "b")
		pop()
		push(t, m, "c", "d")
		pop()
		push(t, m, "e")
		pop()
		pop()
		pop()
		if got != want || m.Len() != 0 {
			t.Errorf("type %d: %s, not %s", kind, got, want)
		}
	}
}

// P9.1, P9.2: nothing changes a frozen map, and EPERM comes ahead of what else is wrong.
func TestFreeze(t *testing.T) {
	for _, s := range kinds() {
		m := made(t, s)
		fill(t, m, 2)
		ahead := m.Sum()
		if m.Frozen() || m.Freeze() != api.OK || !m.Frozen() {
			t.Errorf("type %d: Freeze", s.Type)
		}
		refused(t, m, "Freeze", api.EBUSY, m.Freeze)
		for _, key := range []string{keyFor(s, 0), keyFor(s, 2), "", "a", strings.Repeat("\xff", 6), strings.Repeat("a", 20)} {
			for _, value := range []string{"ab", "", "abc"} {
				for _, flags := range []uint64{0, 1, 2, 3, math.MaxUint64} {
					updateRefused(t, m, key, value, flags, api.EPERM)
					pushRefused(t, m, value, flags, api.EPERM)
				}
			}
			deleteRefused(t, m, key, api.EPERM)
			m.Lookup([]byte(key))
			m.Cell([]byte(key))
		}
		popRefused(t, m, api.EPERM)
		if isLine(s) {
			hasnt(t, m, "", api.EINVAL)
			if v, e := m.Peek(); len(v) != 2 || v[1] != 9 || e != api.OK {
				t.Errorf("type %d: Peek: %d, %d", s.Type, v, e)
			}
		} else {
			has(t, m, keyFor(s, 0), "\x00\x09")
			has(t, m, keyFor(s, 1), "\x01\x09")
			peekRefused(t, m, api.EINVAL)
		}
		if m.Sum() != ahead || m.Spec() != s {
			t.Errorf("type %d: the map changed", s.Type)
		}
	}
}

// P9.1: a frozen map without entries: EPERM still comes first, and there is nothing.
func TestFreezeOfNoEntries(t *testing.T) {
	for _, s := range kinds() {
		m := made(t, s)
		m.Freeze()
		popRefused(t, m, api.EPERM)
		deleteRefused(t, m, keyFor(s, 0), api.EPERM)
		if isLine(s) {
			peekRefused(t, m, api.ENOENT)
		} else if s.Type != api.Array {
			hasnt(t, m, keyFor(s, 0), api.ENOENT)
		}
	}
}

// P9.1: Sum as the document says it, held against another SHA-256.
func TestSum(t *testing.T) {
	line := func(s bmap.Spec) *bmap.Map {
		m := made(t, s)
		push(t, m, "xx", "aa", "bb", "cc")
		m.Pop()
		return m
	}
	array := bmap.Spec{Type: api.Array, Key: 4, Value: 1, Entries: 3}
	m := made(t, array)
	if m.Sum() != sum(array, index(0), "\x00", index(1), "\x00", index(2), "\x00") {
		t.Error("of an Array of noughts")
	}
	put(t, m, index(2), "c")
	put(t, m, index(0), "a")
	if m.Sum() != sum(array, index(0), "a", index(1), "\x00", index(2), "c") {
		t.Error("of an Array")
	}
	for _, kind := range []int{api.Hash, api.LRU} {
		s := bmap.Spec{Type: kind, Key: 2, Value: 1, Entries: 4}
		m := made(t, s)
		if m.Sum() != sum(s) {
			t.Errorf("of type %d without entries", kind)
		}
		for _, key := range []string{"\x80b", "b\x00", "ab", "a\xff"} {
			put(t, m, key, key[1:])
		}
		m.Lookup([]byte("\x80b"))
		if m.Sum() != sum(s, "ab", "b", "a\xff", "\xff", "b\x00", "\x00", "\x80b", "b") {
			t.Errorf("of type %d", kind)
		}
	}
	queue := bmap.Spec{Type: api.Queue, Value: 2, Entries: 4}
	if line(queue).Sum() != sum(queue, "", "aa", "", "bb", "", "cc") {
		t.Error("of a Queue")
	}
	stack := bmap.Spec{Type: api.Stack, Value: 2, Entries: 4}
	if line(stack).Sum() != sum(stack, "", "xx", "", "aa", "", "bb") {
		t.Error("of a Stack")
	}
	prefix := bmap.Spec{Type: api.Prefix, Key: 6, Value: 1, Entries: 4}
	m = made(t, prefix)
	for value, key := range map[string]string{"a": index(0) + "\xff\xff", "b": index(12) + "\x0a\x4f", "c": index(9) + "\x0a\xff", "d": index(9) + "\x09\x7f"} {
		put(t, m, key, value)
	}
	if m.Sum() != sum(prefix, index(0)+"\x00\x00", "a", index(9)+"\x09\x00", "d", index(9)+"\x0a\x80", "c", index(12)+"\x0a\x40", "b") {
		t.Error("of a Prefix")
	}
}

// P9.1: of many values the one pushed first stands first, whatever comes out first.
func TestSumOfALongLine(t *testing.T) {
	for _, kind := range []int{api.Queue, api.Stack} {
		s := bmap.Spec{Type: kind, Value: 1, Entries: 64}
		m := made(t, s)
		parts := []string{}
		for i := range 64 {
			value := string([]byte{byte(i * 37)})
			push(t, m, value)
			parts = append(parts, "", value)
		}
		if m.Sum() != sum(s, parts...) {
			t.Errorf("type %d", kind)
		}
	}
}

// P9.1: Sum doesn't hang on the order in which entries came, and tells each field of the Spec.
func TestSumTellsWhatThereIs(t *testing.T) {
	one, other := made(t, kinds()[1]), made(t, kinds()[1])
	put(t, one, "ab", "11")
	put(t, one, "cd", "22")
	put(t, other, "xx", "33")
	put(t, other, "cd", "44")
	put(t, other, "ab", "11")
	other.Delete([]byte("xx"))
	put(t, other, "cd", "22")
	if one.Sum() != other.Sum() {
		t.Error("of the same entries in another order")
	}
	seen := map[[32]byte]bmap.Spec{}
	for _, s := range []bmap.Spec{
		{Type: api.Hash, Key: 1, Value: 1, Entries: 1}, {Type: api.LRU, Key: 1, Value: 1, Entries: 1},
		{Type: api.Hash, Key: 2, Value: 1, Entries: 1}, {Type: api.Hash, Key: 1, Value: 2, Entries: 1},
		{Type: api.Hash, Key: 1, Value: 1, Entries: 2}, {Type: api.Queue, Value: 1, Entries: 1},
		{Type: api.Stack, Value: 1, Entries: 1}, {Type: api.Prefix, Key: 5, Value: 1, Entries: 1},
	} {
		x := made(t, s).Sum()
		if ahead, there := seen[x]; there {
			t.Errorf("%v has the Sum of %v", s, ahead)
		}
		seen[x] = s
	}
}

// P9.1: what is written into a cell stands in the map, and an entry keeps its cell.
func TestCell(t *testing.T) {
	for _, s := range kinds() {
		if isLine(s) {
			continue
		}
		m := made(t, s)
		fill(t, m, 3)
		c, e := m.Cell([]byte(keyFor(s, 1)))
		if c == nil || e != api.OK || string(c.B) != "\x01\x09" {
			t.Fatalf("type %d: Cell: %v, %d", s.Type, c, e)
		}
		ahead := m.Sum()
		c.B[1] = 7
		has(t, m, keyFor(s, 1), "\x01\x07")
		if m.Sum() == ahead {
			t.Errorf("type %d: the Sum doesn't tell it", s.Type)
		}
		b := c.B
		put(t, m, keyFor(s, 1), "ab")
		if again, _ := m.Cell([]byte(keyFor(s, 1))); again != c || string(c.B) != "ab" || string(b) != "ab" {
			t.Errorf("type %d: behind Update: %v, %q", s.Type, c, b)
		}
		updateRefused(t, m, keyFor(s, 1), "xy", 1, api.EEXIST)
		if string(b) != "ab" {
			t.Errorf("type %d: behind a refused Update: %q", s.Type, b)
		}
		// Neither the room behind a cell's bytes nor the bytes of another entry are reached.
		_ = append(c.B, "zzzzzz"...)
		has(t, m, keyFor(s, 0), "\x00\x09")
		has(t, m, keyFor(s, 1), "ab")
		has(t, m, keyFor(s, 2), "\x02\x09")
		m.Freeze()
		c.B[0] = 'x'
		has(t, m, keyFor(s, 1), "xb")
	}
}

// P9.1: other entries that come and go leave a cell where it is.
func TestCellStaysAmongOthers(t *testing.T) {
	for _, s := range []bmap.Spec{
		{Type: api.Hash, Key: 2, Value: 2, Entries: 64},
		{Type: api.LRU, Key: 2, Value: 2, Entries: 64},
		{Type: api.Prefix, Key: 6, Value: 2, Entries: 64},
	} {
		m := made(t, s)
		fill(t, m, 2)
		c, _ := m.Cell([]byte(keyFor(s, 1)))
		fill(t, m, 60)
		m.Delete([]byte(keyFor(s, 0)))
		m.Delete([]byte(keyFor(s, 30)))
		c.B[0] = 'x'
		has(t, m, keyFor(s, 1), "x\x09")
		if again, _ := m.Cell([]byte(keyFor(s, 1))); again != c {
			t.Errorf("type %d: another cell", s.Type)
		}
		has(t, m, keyFor(s, 2), "\x02\x09")
	}
}

// P9.1: the cell of an entry that is gone is nobody's, though its key comes again.
func TestCellOfWhatIsGone(t *testing.T) {
	for _, s := range kinds() {
		if s.Type == api.Array || isLine(s) {
			continue
		}
		m := made(t, s)
		fill(t, m, 2)
		c, _ := m.Cell([]byte(keyFor(s, 0)))
		m.Delete([]byte(keyFor(s, 0)))
		put(t, m, keyFor(s, 2), "cd")
		put(t, m, keyFor(s, 0), "ab")
		if string(c.B) != "\x00\x09" {
			t.Errorf("type %d: a new entry is in an old cell: %q", s.Type, c.B)
		}
		c.B[0], c.B[1] = 'x', 'x'
		has(t, m, keyFor(s, 0), "ab")
		has(t, m, keyFor(s, 1), "\x01\x09")
		has(t, m, keyFor(s, 2), "cd")
	}
	m := made(t, bmap.Spec{Type: api.LRU, Key: 1, Value: 1, Entries: 1})
	put(t, m, "a", "1")
	c, _ := m.Cell([]byte("a"))
	put(t, m, "b", "2")
	c.B[0] = 'x'
	has(t, m, "b", "2")
}

// P9.1: a value has its bytes' count, whatever list one puts into a cell.
func TestCellWithAnotherList(t *testing.T) {
	for _, b := range [][]byte{nil, {}, {1}, {1, 2, 3}} {
		m := made(t, bmap.Spec{Type: api.Hash, Key: 1, Value: 2, Entries: 1})
		put(t, m, "a", "ab")
		c, _ := m.Cell([]byte("a"))
		c.B = b
		if v, e := m.Lookup([]byte("a")); len(v) != 2 || e != api.OK {
			t.Errorf("Lookup: %d, %d", v, e)
		}
		m.Sum()
		put(t, m, "a", "cd")
		has(t, m, "a", "cd")
	}
}

// P9.3: what is handed in isn't changed or kept; its spare room neither.
func TestArgumentsStayAsTheyAre(t *testing.T) {
	for _, s := range kinds() {
		m := made(t, s)
		key := []byte(keyFor(s, 1) + "spare")[:len(keyFor(s, 1))]
		value := []byte("abspare")[:2]
		if isLine(s) {
			m.Push(value, 0)
		} else {
			// The bits that don't count are dropped from the entry, and not from the argument.
			if s.Type == api.Prefix {
				key[0] = 10
			}
			m.Update(key, value, 0)
			m.Update(key, value, 0)
			m.Update(key, value, 1)
			m.Lookup(key)
			m.Cell(key)
		}
		ahead := m.Sum()
		if string(value[:7]) != "abspare" || string(key[len(key):len(key)+5]) != "spare" || key[len(key)-1] != keyFor(s, 1)[len(key)-1] {
			t.Errorf("type %d: %q, %q", s.Type, key[:cap(key)], value[:cap(value)])
		}
		clear(key)
		clear(value)
		if m.Sum() != ahead {
			t.Errorf("type %d: an argument was kept", s.Type)
		}
	}
}

// P9.3: a map's own bytes as arguments.
func TestCellsAsArguments(t *testing.T) {
	m := made(t, bmap.Spec{Type: api.LRU, Key: 2, Value: 2, Entries: 2})
	put(t, m, "aa", "bb")
	c, _ := m.Cell([]byte("aa"))
	m.Update(c.B, c.B, 0)
	has(t, m, "bb", "bb")
	m.Update([]byte("aa"), c.B, 0)
	c.B[0] = 'x'
	has(t, m, "bb", "bb")
	has(t, m, "aa", "xb")
	m.Update(c.B, c.B, 0)
	has(t, m, "xb", "xb")
	has(t, m, "aa", "xb")
}

// P9.3: an answer shares nothing with the map, or with another answer.
func TestAnswersAreNewMemory(t *testing.T) {
	for _, s := range kinds() {
		m := made(t, s)
		fill(t, m, 3)
		ahead := m.Sum()
		ask := m.Peek
		if !isLine(s) {
			ask = func() ([]byte, api.Errno) { return m.Lookup([]byte(keyFor(s, 1))) }
		}
		one, _ := ask()
		other, _ := ask()
		want := string(other)
		clear(one)
		_ = append(one, "zzzzzz"...)
		if string(other) != want || m.Sum() != ahead {
			t.Errorf("type %d: %q, not %q", s.Type, other, want)
		}
	}
	m := made(t, bmap.Spec{Type: api.Queue, Value: 2, Entries: 2})
	push(t, m, "ab", "cd")
	v, _ := m.Pop()
	push(t, m, "ef")
	if string(v) != "ab" {
		t.Errorf("Pop: %q behind other calls", v)
	}
}

func TestMapsAreApart(t *testing.T) {
	for _, s := range kinds() {
		x, y := made(t, s), made(t, s)
		ahead := y.Sum()
		fill(t, x, 3)
		x.Freeze()
		if y.Sum() != ahead || y.Frozen() {
			t.Errorf("type %d: a map has what another was told", s.Type)
		}
	}
}

// P9.1, P1: a nil map answers, too.
func TestNilMap(t *testing.T) {
	var m *bmap.Map
	for _, key := range []string{"", "a", "abcd"} {
		hasnt(t, m, key, api.EINVAL)
		for flags := range uint64(4) {
			updateRefused(t, m, key, "a", flags, api.EINVAL)
			pushRefused(t, m, "a", flags, api.EINVAL)
		}
		deleteRefused(t, m, key, api.EINVAL)
	}
	popRefused(t, m, api.EINVAL)
	peekRefused(t, m, api.EINVAL)
	refused(t, m, "Freeze", api.EINVAL, m.Freeze)
	if m.Frozen() || m.Len() != 0 || m.Spec() != (bmap.Spec{}) || m.Sum() != [32]byte{} {
		t.Error("a nil map has something")
	}
}

// P1: a map that New hasn't made has room for nothing.
func TestMapWithoutNew(t *testing.T) {
	m := &bmap.Map{}
	for _, key := range []string{"", "a", "abcd"} {
		for _, value := range []string{"", "a"} {
			for flags := range uint64(4) {
				if m.Update([]byte(key), []byte(value), flags) == api.OK || m.Push([]byte(value), flags) == api.OK {
					t.Errorf("%q, %q, %d went in", key, value, flags)
				}
			}
		}
		if _, e := m.Lookup([]byte(key)); e == api.OK || m.Delete([]byte(key)) == api.OK {
			t.Errorf("%q is there", key)
		}
	}
	popRefused(t, m, api.EINVAL)
	peekRefused(t, m, api.EINVAL)
	if m.Len() != 0 || m.Spec() != (bmap.Spec{}) || m.Sum() != sum(bmap.Spec{}) || m.Freeze() != api.OK {
		t.Error("a map that New hasn't made has something")
	}
}

// The document's example.
func TestExample(t *testing.T) {
	m := made(t, bmap.Spec{Type: api.Hash, Key: 1, Value: 1, Entries: 1})
	put(t, m, "a", "1")
	has(t, m, "a", "1")
	m.Freeze()
	updateRefused(t, m, "a", "2", 0, api.EPERM)
	has(t, m, "a", "1")
}

// P9.1: nil and empty lists are one, and no key or value of any map.
func TestNilAndEmptyLists(t *testing.T) {
	for _, s := range kinds() {
		m := made(t, s)
		fill(t, m, 1)
		for _, none := range [][]byte{nil, {}} {
			if v, e := m.Lookup(none); v != nil || e != api.EINVAL {
				t.Errorf("type %d: Lookup: %v, %d", s.Type, v, e)
			}
			refused(t, m, "Delete", api.EINVAL, func() api.Errno { return m.Delete(none) })
			refused(t, m, "Update", api.EINVAL, func() api.Errno { return m.Update([]byte(keyFor(s, 0)), none, 0) })
			refused(t, m, "Push", api.EINVAL, func() api.Errno { return m.Push(none, 0) })
		}
	}
}
