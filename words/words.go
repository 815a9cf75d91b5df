// Package words is layer 1: numbers in bytes: see shared/doc/01-words.md.
package words

import (
	"slices"

	"joist/api"
)

// Get gets a word.
func Get(b []byte, at int) (int, bool) {
	if !holds(b, at) {
		return 0, false
	}
	return load(b[at*api.WordSize:])
}

// Put puts one.
func Put(b []byte, at, n int) ([]byte, api.Errno) {
	if !holds(b, at) {
		return nil, api.ErrArg
	}
	if !fits(n) {
		return nil, api.ErrNum
	}
	out := slices.Clone(b)
	lay(out[at*api.WordSize:], n)
	return out, api.OK
}

// Of are words, one behind another.
func Of(l ...int) ([]byte, api.Errno) {
	out := make([]byte, len(l)*api.WordSize)
	for i, n := range l {
		if !fits(n) {
			return nil, api.ErrNum
		}
		lay(out[i*api.WordSize:], n)
	}
	return out, api.OK
}

// All are all of them.
func All(b []byte) ([]int, bool) {
	if len(b)%api.WordSize != 0 {
		return nil, false
	}
	out := make([]int, len(b)/api.WordSize)
	for i := range out {
		n, is := load(b[i*api.WordSize:])
		if !is {
			return nil, false
		}
		out[i] = n
	}
	return out, true
}

// Zero tells whether all bytes are 0.
func Zero(b []byte) bool {
	for i := range len(b) {
		if b[i] != 0 {
			return false
		}
	}
	return true
}

// holds counts the whole words of b instead of multiplying at, which may be as great as MaxInt.
func holds(b []byte, at int) bool {
	return at >= 0 && at < len(b)/api.WordSize
}

func fits(n int) bool {
	return n >= 0 && n <= api.MaxWord
}

// load gathers without a sign: bytes above MaxInt must not look like a number below 0.
func load(b []byte) (int, bool) {
	var n uint64
	for i := range api.WordSize {
		n |= uint64(b[i]) << (8 * i)
	}
	if n > api.MaxWord {
		return 0, false
	}
	return int(n), true
}

func lay(b []byte, n int) {
	for i := range api.WordSize {
		b[i] = byte(n >> (8 * i))
	}
}
