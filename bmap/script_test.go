package bmap_test

import (
	"encoding/binary"
	"fmt"
	"math/rand/v2"
	"slices"
	"strings"
	"testing"

	"tipstaff/api"
	"tipstaff/bmap"
)

// model is a map in other words: entries by names in a Go map, the bits of a Prefix's key as a text of 0 and 1, and a count of uses.
type model struct {
	spec   bmap.Spec
	frozen bool
	values map[string]string
	used   map[string]int
	clock  int
	line   []string
}

func newModel(s bmap.Spec) *model {
	m := &model{spec: s, values: map[string]string{}, used: map[string]int{}}
	if s.Type == api.Array {
		for n := range s.Entries {
			m.values[index(uint32(n))] = strings.Repeat("\x00", s.Value)
		}
	}
	return m
}

// name is what an entry of a key has in the model; of a Prefix the bits that count.
func (m *model) name(key string) (string, bool) {
	if isLine(m.spec) || len(key) != m.spec.Key {
		return "", false
	}
	if m.spec.Type != api.Prefix {
		return key, true
	}
	bits := ""
	for _, b := range []byte(key[4:]) {
		bits += fmt.Sprintf("%08b", b)
	}
	n := int(binary.LittleEndian.Uint32([]byte(key)))
	if n > len(bits) {
		return "", false
	}
	return bits[:n], true
}

func (m *model) lookup(key string) (string, api.Errno) {
	name, ok := m.name(key)
	if !ok {
		return "", api.EINVAL
	}
	for {
		if v, there := m.values[name]; there {
			m.use(name)
			return v, api.OK
		}
		if m.spec.Type != api.Prefix || name == "" {
			return "", api.ENOENT
		}
		name = name[:len(name)-1]
	}
}

func (m *model) use(name string) {
	m.clock++
	m.used[name] = m.clock
}

func (m *model) update(key, value string, flags uint64) api.Errno {
	if m.frozen {
		return api.EPERM
	}
	name, ok := m.name(key)
	if !ok || len(value) != m.spec.Value || flags > 2 {
		return api.EINVAL
	}
	_, there := m.values[name]
	switch {
	case there && flags == 1:
		return api.EEXIST
	case !there && m.spec.Type == api.Array:
		return api.E2BIG
	case !there && flags == 2:
		return api.ENOENT
	case !there && len(m.values) == m.spec.Entries && m.spec.Type != api.LRU:
		return api.E2BIG
	case !there && len(m.values) == m.spec.Entries:
		oldest := ""
		for other := range m.values {
			if oldest == "" || m.used[other] < m.used[oldest] {
				oldest = other
			}
		}
		delete(m.values, oldest)
	}
	m.values[name] = value
	m.use(name)
	return api.OK
}

func (m *model) delete(key string) api.Errno {
	if m.frozen {
		return api.EPERM
	}
	name, ok := m.name(key)
	if !ok || m.spec.Type == api.Array {
		return api.EINVAL
	}
	if _, there := m.values[name]; !there {
		return api.ENOENT
	}
	delete(m.values, name)
	return api.OK
}

func (m *model) push(value string, flags uint64) api.Errno {
	switch {
	case m.frozen:
		return api.EPERM
	case !isLine(m.spec) || len(value) != m.spec.Value || flags != 0:
		return api.EINVAL
	case len(m.line) == m.spec.Entries:
		return api.E2BIG
	}
	m.line = append(m.line, value)
	return api.OK
}

func (m *model) take(goes bool) (string, api.Errno) {
	switch {
	case goes && m.frozen:
		return "", api.EPERM
	case !isLine(m.spec):
		return "", api.EINVAL
	case len(m.line) == 0:
		return "", api.ENOENT
	}
	at := 0
	if m.spec.Type == api.Stack {
		at = len(m.line) - 1
	}
	value := m.line[at]
	if goes {
		m.line = slices.Delete(m.line, at, at+1)
	}
	return value, api.OK
}

// sum lays the entries' parts as the document says; of a Prefix the key is made of its bits again.
func (m *model) sum() [32]byte {
	keys := map[string]string{}
	for name, value := range m.values {
		key := name
		if m.spec.Type == api.Prefix {
			b := make([]byte, m.spec.Key)
			binary.LittleEndian.PutUint32(b, uint32(len(name)))
			for i, bit := range name {
				if bit == '1' {
					b[4+i/8] |= 0x80 >> (i % 8)
				}
			}
			key = string(b)
		}
		keys[key] = value
	}
	order := []string{}
	for key := range keys {
		order = append(order, key)
	}
	slices.Sort(order)
	parts := []string{}
	for _, key := range order {
		parts = append(parts, key, keys[key])
	}
	for _, value := range m.line {
		parts = append(parts, "", value)
	}
	return sum(m.spec, parts...)
}

// someKey is mostly one of few keys, and sometimes none of such a map.
func someKey(r *rand.Rand, s bmap.Spec) string {
	if r.IntN(20) == 0 {
		return strings.Repeat("\x01", r.IntN(18))
	}
	b := make([]byte, s.Key)
	if s.Type == api.Array {
		b[0] = byte(r.IntN(s.Entries + 2))
		return string(b)
	}
	for i := range b {
		b[i] = byte(r.IntN(2))
	}
	if s.Type == api.Prefix {
		binary.LittleEndian.PutUint32(b, uint32(r.IntN(8*(s.Key-4)+2)))
		for i := range b[4:] {
			b[4+i] *= 0x91
		}
	}
	return string(b)
}

func someValue(r *rand.Rand, s bmap.Spec) string {
	n := s.Value
	if r.IntN(20) == 0 {
		n = r.IntN(66)
	}
	return strings.Repeat(string([]byte{byte(r.IntN(256))}), n)
}

func someSpec(r *rand.Rand, kind int) bmap.Spec {
	s := bmap.Spec{Type: kind, Value: 1 + r.IntN(4), Entries: 1 + r.IntN(5)}
	switch kind {
	case api.Array:
		s.Key = 4
	case api.Hash, api.LRU:
		s.Key = 1 + r.IntN(3)
	case api.Prefix:
		s.Key = 5 + r.IntN(3)
	}
	return s
}

// step does one call on the map and on the model, and tells what each of them answered.
func step(r *rand.Rand, m *bmap.Map, x *model) (name, got, want string) {
	key, value, flags := someKey(r, x.spec), someValue(r, x.spec), uint64(r.IntN(8)/2)
	told := func(v any, e api.Errno) string { return fmt.Sprintf("%q %d", v, e) }
	switch n := r.IntN(200); {
	case n == 0:
		e := api.OK
		if x.frozen {
			e = api.EBUSY
		}
		x.frozen = true
		return "Freeze", told("", m.Freeze()), told("", e)
	case n < 40:
		b, e := m.Lookup([]byte(key))
		return "Lookup", told(string(b), e), told(x.lookup(key))
	case n < 60:
		c, e := m.Cell([]byte(key))
		if c == nil {
			c = &bmap.Cell{}
		}
		return "Cell", told(string(c.B), e), told(x.lookup(key))
	case n < 120:
		return "Update", told("", m.Update([]byte(key), []byte(value), flags)), told("", x.update(key, value, flags))
	case n < 140:
		return "Delete", told("", m.Delete([]byte(key))), told("", x.delete(key))
	case n < 170:
		return "Push", told("", m.Push([]byte(value), flags/3)), told("", x.push(value, flags/3))
	case n < 190:
		b, e := m.Pop()
		return "Pop", told(string(b), e), told(x.take(true))
	}
	b, e := m.Peek()
	return "Peek", told(string(b), e), told(x.take(false))
}

// P9.1, P9.2: scripts of calls, held against the model behind each call.
func TestScripts(t *testing.T) {
	for kind := range api.MapTypes {
		for seed := range uint64(60) {
			r := rand.New(rand.NewPCG(seed, uint64(kind)))
			s := someSpec(r, kind)
			m, x := made(t, s), newModel(s)
			for i := range 300 {
				name, got, want := step(r, m, x)
				if got != want {
					t.Fatalf("%v, seed %d, step %d: %s: %s, not %s", s, seed, i, name, got, want)
				}
				if m.Len() != len(x.values)+len(x.line) || m.Frozen() != x.frozen || m.Sum() != x.sum() {
					t.Fatalf("%v, seed %d, step %d: behind %s: Len %d, Frozen %v, or Sum", s, seed, i, name, m.Len(), m.Frozen())
				}
			}
		}
	}
}
