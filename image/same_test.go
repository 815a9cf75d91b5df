package image

import (
	"bytes"
	"slices"
	"testing"

	"joist/api"
)

// P19.3

// sameIs asks both ways round.
func sameIs(t *testing.T, what string, a, b []byte, want bool) {
	t.Helper()
	if Same(a, b) != want || Same(b, a) != want {
		t.Fatalf("%s: Same of %d and %d bytes is %v", what, len(a), len(b), !want)
	}
}

// TestSameOfEachByte: a turned byte tells apart, but for the records' ones.
func TestSameOfEachByte(t *testing.T) {
	for _, s := range []api.State{full(), bare(small(), modeOne, 0), bare(api.Shape{Pages: 1, Slots: 2, Roots: 2, Room: 1}, modeTwo, 1)} {
		b := byHand(s)
		sameIs(t, "with itself", b, b, true)
		sameIs(t, "with a copy", b, slices.Clone(b), true)
		for i := range b {
			for _, turn := range []byte{1, 0x80, 0xff} {
				c := slices.Clone(b)
				c[i] ^= turn
				sameIs(t, "a byte of the "+partAt(s.Shape, i), b, c, partAt(s.Shape, i) == "records")
			}
		}
	}
}

// TestSameOfEachLine: of shapes with many records, too.
func TestSameOfEachLine(t *testing.T) {
	for _, shape := range shapes() {
		b := byHand(bare(shape, modeUp, 1))
		for line := range len(b) / lineBytes {
			if line > 40 && line < 2*shape.Room-3 {
				continue
			}
			c := slices.Clone(b)
			c[lineBytes*line+line%lineBytes] ^= 9
			sameIs(t, "a line", b, c, line >= 2 && line < 2+2*shape.Room)
		}
	}
}

func TestSameWithAnythingAsRecords(t *testing.T) {
	roll := dice(41)
	for what, s := range named() {
		b := byHand(s)
		sameIs(t, what, noisy(b, s.Shape, roll), noisy(b, s.Shape, roll), true)
		sameIs(t, what, noisy(b, s.Shape, roll), b, true)
		other := noisy(b, s.Shape, roll)
		other[len(other)-1] ^= 1
		sameIs(t, what, other, b, false)
	}
}

// TestSameAsksForNoState: a head is all that it takes, whatever stands behind it.
func TestSameAsksForNoState(t *testing.T) {
	roll := dice(42)
	b := byHand(full())
	for i := lineBytes; i < len(b); i++ {
		b[i] = byte(roll(256))
	}
	if _, e := Decode(b); e != api.ErrCorrupt {
		t.Fatalf("Decode tells %d", e)
	}
	sameIs(t, "no state", b, slices.Clone(b), true)
	sameIs(t, "no state", b, noisy(b, full().Shape, roll), true)
	for i := lineBytes; i < len(b); i += 13 {
		c := slices.Clone(b)
		c[i] ^= 1
		sameIs(t, "no state", b, c, partAt(full().Shape, i) == "records")
	}
}

// TestSameOfLengths: bytes that have no Shape, or each another one, are not the same, not even with themselves.
func TestSameOfLengths(t *testing.T) {
	b := byHand(full())
	sameIs(t, "nil", nil, nil, false)
	sameIs(t, "none", []byte{}, nil, false)
	sameIs(t, "nil and a heap", nil, b, false)
	sameIs(t, "zeros", make([]byte, len(b)), make([]byte, len(b)), false)
	sameIs(t, "a heap and zeros", b, make([]byte, len(b)), false)
	for _, n := range []int{1, 8, 63, 64, 65, len(b) - 64, len(b) - 1} {
		sameIs(t, "cut", b, b[:n], false)
		sameIs(t, "both cut", b[:n], b[:n], false)
	}
	for _, n := range []int{1, 64, 128} {
		more := append(slices.Clone(b), make([]byte, n)...)
		sameIs(t, "more", b, more, false)
		sameIs(t, "both more", more, more, false)
	}
	wrong := over(b, 0, 7, wordsOf(1))
	sameIs(t, "no head", wrong, wrong, false)
	sameIs(t, "one without a head", wrong, b, false)
	sameIs(t, "without a head, and no line behind", b[:64], b[:64], false)
}

// TestSameOfOtherHeads: of one length, but of another mode, base or shape.
func TestSameOfOtherHeads(t *testing.T) {
	b := byHand(full())
	for _, other := range ofAsManyLines(full().Shape) {
		c := over(b, 0, 0, headOf(other, modeUp, 1))
		if s, is := Shape(c); !is || s != other {
			t.Fatalf("no shape %+v", other)
		}
		sameIs(t, "another shape", b, c, false)
		sameIs(t, "the same other shape", c, slices.Clone(c), true)
	}
	sameIs(t, "another mode", b, over(b, 0, 0, headOf(full().Shape, modeDown, 5)), false)
	sameIs(t, "another base", b, over(b, 0, 0, headOf(full().Shape, modeUp, 4)), false)
}

// TestSameOfRolledStates: bytes of states are the same just if all but the records' lines is.
func TestSameOfRolledStates(t *testing.T) {
	all := rolled(43, 4, small(), full().Shape)
	for i, s := range all {
		for k, other := range all {
			a, b := byHand(s), byHand(other)
			want := s.Shape == other.Shape && bytes.Equal(outside(a, s.Shape), outside(b, s.Shape))
			if i == k && !want {
				t.Fatal("not the same as itself")
			}
			sameIs(t, "rolled", a, b, want)
		}
	}
}
