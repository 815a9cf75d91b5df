package super

import (
	"bytes"
	"slices"
	"testing"

	"joist/api"
)

// P17.3

const (
	spareOf = 96
	oddByte = 0xa5
)

// roomy is a copy of b with spare room behind it.
func roomy(b []byte) []byte {
	all := append(slices.Clone(b), slices.Repeat([]byte{oddByte}, spareOf)...)
	return all[:len(b):len(all)]
}

// TestReadChangesNothing: neither bytes that are a head's nor others, nor what stands behind them.
func TestReadChangesNothing(t *testing.T) {
	for _, h := range few() {
		b := laid(h)
		turned := slices.Clone(b)
		turned[20]++
		for _, one := range [][]byte{b, turned, b[:63], b[:56], b[:0], slices.Concat(b, b), sealed([7]uint64{magic, 5})} {
			given := roomy(one)
			all := given[:cap(given)]
			was := slices.Clone(all)
			Read(given)
			if !bytes.Equal(all, was) {
				t.Fatalf("Read(%v) made %v of %v", one, all, was)
			}
		}
	}
}

// TestReadGoesByLength: what stands in spare room is no part of the bytes.
func TestReadGoesByLength(t *testing.T) {
	for _, h := range few() {
		b := laid(h)
		readIs(t, roomy(b), h)
		twice := slices.Concat(b, b)
		readIs(t, twice[:lineBytes], h)
		for n := range lineBytes {
			noneIs(t, b[:n])
			noneIs(t, b[:n:n])
		}
		noneIs(t, twice[:lineBytes+1])
	}
}

// TestReadKeepsNothing: bytes that are others when they are read again are read as what they are now.
func TestReadKeepsNothing(t *testing.T) {
	b := make([]byte, lineBytes)
	for _, h := range few() {
		copy(b, laid(h))
		readIs(t, b, h)
		clear(b)
		noneIs(t, b)
		readIs(t, laid(h), h)
	}
}

// TestWriteIsNewMemory: who writes over an answer, its spare room too, changes no other one.
func TestWriteIsNewMemory(t *testing.T) {
	for _, h := range few() {
		one, _ := write(h)
		two, _ := write(h)
		other, _ := write(head{small(), modeDown, 3})
		full := one[:cap(one)]
		for k := range full {
			full[k] = oddByte
		}
		if !bytes.Equal(two, laid(h)) || !bytes.Equal(other, laid(head{small(), modeDown, 3})) {
			t.Fatalf("Write(%+v): answers share memory", h)
		}
		rightIs(t, h)
		two = append(two, one...)
		rightIs(t, h)
		readIs(t, two[:lineBytes], h)
	}
}

// TestAnswersDoNotHangOnWhatWasAhead: refused calls and others between leave nothing behind.
func TestAnswersDoNotHangOnWhatWasAhead(t *testing.T) {
	for _, h := range few() {
		wrongIs(t, head{h.s, modeOne, 1})
		rightIs(t, h)
		noneIs(t, sealed([7]uint64{magic, 5}))
		readIs(t, laid(h), h)
		wrongIs(t, head{api.Shape{}, h.mode, h.base})
		rightIs(t, h)
		nameIs(t, 0, "")
		modeIs(t, "ups", 0)
		nameIs(t, modeUp, "up")
		modeIs(t, "up", modeUp)
	}
}

// TestModeKeepsNothing: a name made of bytes that become others stays what it was.
func TestModeKeepsNothing(t *testing.T) {
	b := []byte("down")
	modeIs(t, string(b), modeDown)
	copy(b, "odd")
	modeIs(t, string(b), 0)
	nameIs(t, modeDown, "down")
	text := []byte(Name(modeOne))
	text[0] = 'O'
	nameIs(t, modeOne, "one")
	modeIs(t, "one", modeOne)
}
