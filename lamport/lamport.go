// Package lamport is layer 2: signatures that are good for one text: see shared/doc/02-lamport.md.
package lamport

import (
	"tipstaff/api"
	"tipstaff/digest"
)

const (
	places    = 32
	sumSize   = 32
	pairSize  = 2 * sumSize
	wholeSize = places * pairSize
)

// Key: the public key of a seed.
func Key(seed []byte) [32]byte {
	leaves := make([]byte, 0, wholeSize)
	for place := range places {
		zero, one := leaf(seed, place, 0), leaf(seed, place, 1)
		leaves = append(leaves, zero[:]...)
		leaves = append(leaves, one[:]...)
	}
	return digest.Sum(leaves)
}

// Sign: what the seed says to a sum.
func Sign(seed []byte, sum [32]byte) []byte {
	signature := make([]byte, 0, wholeSize)
	for place := range places {
		bit := bitOf(sum, place)
		told, hidden := secret(seed, place, bit), leaf(seed, place, 1-bit)
		signature = append(signature, told[:]...)
		signature = append(signature, hidden[:]...)
	}
	return signature
}

// Verify: does a signature fit a key and a sum?
func Verify(key, sum [32]byte, signature []byte) api.Errno {
	if len(signature) != wholeSize {
		return api.EINVAL
	}
	leaves := make([]byte, 0, wholeSize)
	for place := range places {
		pair := signature[place*pairSize : (place+1)*pairSize]
		told, hidden := digest.Sum(pair[:sumSize]), pair[sumSize:]
		if bitOf(sum, place) == 0 {
			leaves = append(leaves, told[:]...)
			leaves = append(leaves, hidden...)
		} else {
			leaves = append(leaves, hidden...)
			leaves = append(leaves, told[:]...)
		}
	}
	if digest.Sum(leaves) != key {
		return api.EKEYREJECTED
	}
	return api.OK
}

func secret(seed []byte, place, bit int) [32]byte {
	return digest.Joined([][]byte{seed, {byte(place), byte(bit)}})
}

func leaf(seed []byte, place, bit int) [32]byte {
	s := secret(seed, place, bit)
	return digest.Sum(s[:])
}

func bitOf(sum [32]byte, place int) int {
	return int(sum[place/8]>>(7-place%8)) & 1
}
