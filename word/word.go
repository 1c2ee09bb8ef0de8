// Package word: numbers in bytes: see doc/01-word.md.
package word

import (
	"iter"

	"shipfitter/api"
)

const (
	maxBytes = 4
	maxBits  = 8 * maxBytes
)

// Get a number.
func Get(s string, at, bytes int) (int, api.Errno) {
	if e := wrongPlace(len(s), at, bytes); e != api.OK {
		return 0, e
	}
	n := 0
	for place, shift := range bytesOf(at, bytes) {
		n |= int(s[place]) << shift
	}
	return n, api.OK
}

// Put a number.
func Put(s string, at, bytes, n int) (string, api.Errno) {
	if e := wrongPlace(len(s), at, bytes); e != api.OK {
		return "", e
	}
	t := []byte(s)
	for place, shift := range bytesOf(at, bytes) {
		t[place] = byte(n >> shift)
	}
	return string(t), api.OK
}

// Signed number of so many bits.
func Signed(n, bits int) (int, api.Errno) {
	if bits < 1 || bits > maxBits {
		return 0, api.ErrKind
	}
	whole := 1 << bits
	if n < 0 || n >= whole {
		return 0, api.ErrRange
	}
	if n >= whole/2 {
		return n - whole, api.OK
	}
	return n, api.OK
}

// wrongPlace tells why so many bytes from a place on are not a number of a text of that length.
func wrongPlace(length, at, bytes int) api.Errno {
	if bytes < 1 || bytes > maxBytes {
		return api.ErrKind
	}
	// at is held against what is left, for at and bytes together could wrap round.
	if at < 0 || at > length-bytes {
		return api.ErrRange
	}
	return api.OK
}

// bytesOf goes through the bytes of a number, the lesser ones first: the place of each, and by how many bits it is shifted in the number.
func bytesOf(at, bytes int) iter.Seq2[int, int] {
	return func(yield func(place, shift int) bool) {
		for i := range bytes {
			if !yield(at+i, 8*i) {
				return
			}
		}
	}
}
