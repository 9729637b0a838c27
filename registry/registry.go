// Package registry is layer 3: keys that were let in, and are spent once: see shared/doc/03-registry.md.
package registry

import (
	"tipstaff/api"
	"tipstaff/lamport"
)

const (
	maxKeys       = 32
	signatureSize = 2048
)

type entry struct {
	key   [32]byte
	spent bool
}

// Registry is keys: the first count of its entries, in the order in which they were let in.
type Registry struct {
	entries [maxKeys]entry
	count   int
}

// New: none.
func New() *Registry {
	return &Registry{}
}

// Add: one more, unspent.
func (r *Registry) Add(key [32]byte) api.Errno {
	if r == nil {
		return api.EINVAL
	}
	// A spent key counts here, too: else it could be let in again, and be spent twice.
	if _, there := r.place(key); there {
		return api.EEXIST
	}
	if r.count == maxKeys {
		return api.ENOSPC
	}
	r.entries[r.count] = entry{key: key}
	r.count++
	return api.OK
}

// Has: is one there, and not spent?
func (r *Registry) Has(key [32]byte) bool {
	if r == nil {
		return false
	}
	i, there := r.place(key)
	return there && !r.entries[i].spent
}

// Find: the first one that fits a sum and a signature.
func (r *Registry) Find(sum [32]byte, signature []byte) (int, api.Errno) {
	// Looked for ahead of the keys: a registry without keys has to refuse it likewise.
	if r == nil || len(signature) != signatureSize {
		return 0, api.EINVAL
	}
	for i := range r.count {
		if !r.entries[i].spent && lamport.Verify(r.entries[i].key, sum, signature) == api.OK {
			return i, api.OK
		}
	}
	return 0, api.EKEYREJECTED
}

// Spend: one is spent.
func (r *Registry) Spend(i int) api.Errno {
	if r == nil {
		return api.EINVAL
	}
	if i < 0 || i >= r.count {
		return api.ENOENT
	}
	if r.entries[i].spent {
		return api.EKEYREJECTED
	}
	r.entries[i].spent = true
	return api.OK
}

// Len: how many there are, spent ones among them.
func (r *Registry) Len() int {
	if r == nil {
		return 0
	}
	return r.count
}

// place tells where a key is, spent or not.
func (r *Registry) place(key [32]byte) (int, bool) {
	for i := range r.count {
		if r.entries[i].key == key {
			return i, true
		}
	}
	return 0, false
}
