package super

import (
	"encoding/binary"
	"hash/crc32"
	"slices"
	"testing"

	"joist/api"
)

// P17.1: Read

func readIs(t *testing.T, b []byte, h head) {
	t.Helper()
	if s, mode, base, is := Read(b); (head{s, mode, base}) != h || !is {
		t.Fatalf("Read(%v) = %+v, %d, %d, %v; want %+v", b, s, mode, base, is, h)
	}
}

func noneIs(t *testing.T, b []byte) {
	t.Helper()
	if s, mode, base, is := Read(b); s != (api.Shape{}) || mode != 0 || base != 0 || is {
		t.Fatalf("Read(%v) = %+v, %d, %d, %v; want all zero, false", b, s, mode, base, is)
	}
}

// few are heads of each mode, at the edges.
func few() []head {
	var l []head
	for _, s := range shapes() {
		l = append(l, head{s, modeOne, 0}, head{s, modeTwo, s.Pages}, head{s, modeUp, 0}, head{s, modeUp, s.Pages}, head{s, modeDown, s.Pages - 1}, head{s, modeDown, 1})
	}
	return l
}

func TestReadEachHead(t *testing.T) {
	eachHead(func(h head) { readIs(t, laid(h), h) })
}

func TestReadOtherLengths(t *testing.T) {
	noneIs(t, nil)
	noneIs(t, []byte{})
	for _, h := range few() {
		b := laid(h)
		for n := range lineBytes {
			noneIs(t, b[:n])
			noneIs(t, b[lineBytes-n:])
		}
		noneIs(t, slices.Concat(b, b))
		for n := 1; n <= 2*lineBytes; n++ {
			noneIs(t, slices.Concat(b, make([]byte, n)))
			noneIs(t, slices.Concat(make([]byte, n), b))
		}
	}
}

// TestReadOtherWords: bytes that are whole words with a right sum, but fewer or more than a head's.
func TestReadOtherWords(t *testing.T) {
	for _, h := range few() {
		l := numbersOf(h)
		for n := range 20 {
			var b []byte
			for k := range n {
				b = binary.LittleEndian.AppendUint64(b, l[min(k, 6)])
			}
			b = binary.LittleEndian.AppendUint64(b, uint64(crc32.ChecksumIEEE(b)))
			if n != 7 {
				noneIs(t, b)
			}
		}
	}
}

// TestReadTurnedBytes: each place, to every other byte.
func TestReadTurnedBytes(t *testing.T) {
	for _, h := range few() {
		b := laid(h)
		for at := range b {
			for turn := 1; turn < 256; turn++ {
				b[at] ^= byte(turn)
				noneIs(t, b)
				b[at] ^= byte(turn)
			}
		}
		readIs(t, b, h)
	}
}

// TestReadOtherSums: the sum's word is none but the sum.
func TestReadOtherSums(t *testing.T) {
	for _, h := range few() {
		b := laid(h)
		front := b[:56]
		sum := uint64(crc32.ChecksumIEEE(front))
		for _, n := range []uint64{0, 1, sum + 1, sum - 1, sum ^ 0xffffffff, ^sum, sum << 1, sum << 32, sum | 1<<32, sum | 1<<61, sum | 1<<62, sum | 1<<63, 1<<64 - 1, uint64(crc32.ChecksumIEEE(b))} {
			noneIs(t, binary.LittleEndian.AppendUint64(slices.Clone(front), n))
		}
		noneIs(t, binary.BigEndian.AppendUint64(slices.Clone(front), sum))
		noneIs(t, binary.LittleEndian.AppendUint64(slices.Clone(front), uint64(crc32.Checksum(front, crc32.MakeTable(crc32.Castagnoli)))))
	}
}

func TestReadPlainLines(t *testing.T) {
	for n := range 256 {
		noneIs(t, slices.Repeat([]byte{byte(n)}, lineBytes))
		noneIs(t, sealed([7]uint64{uint64(n), uint64(n), uint64(n), uint64(n), uint64(n), uint64(n), uint64(n)}))
	}
	noneIs(t, sealed([7]uint64{magic}))
	noneIs(t, sealed([7]uint64{magic, magic, magic, magic, magic, magic, magic}))
}

func TestReadOtherMagic(t *testing.T) {
	for _, h := range few() {
		for bit := range 64 {
			l := numbersOf(h)
			l[0] ^= 1 << bit
			noneIs(t, sealed(l))
		}
		for _, n := range []uint64{0, 1, magic - 1, magic + 1, 0x4a4f49535431, 0x4a4f495354310000, 1<<62 - 1, 1 << 62, 1<<64 - magic, 1<<64 - 1} {
			l := numbersOf(h)
			l[0] = n
			noneIs(t, sealed(l))
		}
	}
}

// TestReadOtherNumbers: each word of a head becomes one of many others, the sum with it: it is read if that is a head again.
func TestReadOtherNumbers(t *testing.T) {
	var tries []int
	for n := range 2100 {
		tries = append(tries, n)
	}
	tries = append(tries, far()...)
	for _, h := range few() {
		for at := 1; at < 7; at++ {
			for _, n := range tries {
				other := h
				*[]*int{&other.mode, &other.s.Pages, &other.s.Slots, &other.s.Roots, &other.s.Room, &other.base}[at-1] = n
				if isRight(other) {
					readIs(t, laid(other), other)
				} else {
					noneIs(t, laid(other))
				}
			}
		}
	}
}

// TestReadNoWords: a number past a word's is none, though its lower bits be right.
func TestReadNoWords(t *testing.T) {
	for _, h := range few() {
		for at := range 7 {
			for _, high := range []uint64{1 << 62, 1 << 63, 3 << 62, 1 << 61, 1 << 32, 1 << 16} {
				l := numbersOf(h)
				l[at] ^= high
				noneIs(t, sealed(l))
				l[at] = high
				noneIs(t, sealed(l))
				l[at] = -numbersOf(h)[at]
				if l[at] != 0 {
					noneIs(t, sealed(l))
				}
			}
		}
	}
}

// TestReadWordsInAnotherOrder: numbers that could stand for each other in no other place.
func TestReadWordsInAnotherOrder(t *testing.T) {
	h := head{api.Shape{Pages: 63, Slots: 30, Roots: 6, Room: 261}, modeDown, 17}
	readIs(t, laid(h), h)
	for a := range 7 {
		for b := range a {
			l := numbersOf(h)
			l[a], l[b] = l[b], l[a]
			other := head{api.Shape{Pages: int(l[2]), Slots: int(l[3]), Roots: int(l[4]), Room: int(l[5])}, int(l[1]), int(l[6])}
			if l[0] == magic && isRight(other) {
				readIs(t, sealed(l), other)
			} else {
				noneIs(t, sealed(l))
			}
		}
	}
}

// TestReadModesAndBasesThatDoNotGoTogether: written out, with right sums.
func TestReadModesAndBasesThatDoNotGoTogether(t *testing.T) {
	for _, h := range []head{
		{small(), modeOne, 1}, {small(), modeOne, 4}, {small(), modeTwo, 3}, {small(), modeTwo, 0}, {small(), modeTwo, 5},
		{small(), modeUp, 5}, {small(), modeDown, 5}, {small(), 0, 0}, {small(), 5, 0}, {small(), 5, 4},
		{api.Shape{}, modeOne, 0}, {api.Shape{}, modeTwo, 0}, {api.Shape{}, modeUp, 0}, {api.Shape{}, modeDown, 0}, {},
		{api.Shape{Pages: 4, Slots: 3, Roots: 2, Room: 30}, modeUp, 2}, {api.Shape{Pages: 65, Slots: 4, Roots: 2, Room: 30}, modeUp, 2},
	} {
		noneIs(t, laid(h))
	}
}

func TestReadWrongShapes(t *testing.T) {
	for _, s := range wrongShapes() {
		for _, mode := range modes() {
			for _, base := range []int{0, 1, 3, 4, s.Pages} {
				noneIs(t, laid(head{s, mode, base}))
			}
		}
	}
}
