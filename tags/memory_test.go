package tags

import (
	"bytes"
	"math"
	"slices"
	"testing"

	"joist/api"
)

// P11.4

const spareOf = 40

// odd is what stands in spare room: no call writes it.
func odd() api.Block { return api.Block{At: -77, Size: -78, Index: -79} }

const (
	oddByte = 0xee
	oddHead = -80
)

// roomy is a copy of l with spare room behind it.
func roomy[T any](l []T, spare T) []T {
	all := append(slices.Clone(l), slices.Repeat([]T{spare}, spareOf)...)
	return all[:len(l):len(all)]
}

// roomyHeap is a copy of a heap with spare room behind each of its lists; behind its data stand rows that are odd, too.
func roomyHeap(h heap) heap {
	h.used = roomy(h.used, odd())
	h.data = roomy(h.data, nil)
	for k := range h.data[:cap(h.data)] {
		h.data[:cap(h.data)][k] = roomy(h.data[:cap(h.data)][k], oddByte)
	}
	return h
}

// spareIs tells whether all that stands in l's spare room is as it was laid there.
func spareIs[T comparable](l []T, spare T) bool {
	return !slices.ContainsFunc(l[len(l):cap(l)], func(one T) bool { return one != spare })
}

func unchanged(t *testing.T, h, was heap) {
	t.Helper()
	if !slices.Equal(h.used, was.used) || !spareIs(h.used, odd()) || !sameRows(h.data, was.data) {
		t.Fatalf("%v became %v, or its spare room is changed", was, h)
	}
	for k, b := range h.data[:cap(h.data)] {
		if !spareIs(b, oddByte) || k >= len(h.data) && len(b) != 0 {
			t.Fatalf("%v: the spare room of row %d is changed", was, k)
		}
	}
}

// scribble writes over a list, its spare room too.
func scribble[T any](l []T, spare T) {
	for k := range l[:cap(l)] {
		l[:cap(l)][k] = spare
	}
}

func scribbleRows(l [][]byte) {
	for _, b := range l[:cap(l)] {
		scribble(b, oddByte)
	}
	scribble(l, []byte{oddByte})
}

// deepRows is a copy of rows in all depths.
func deepRows(l [][]byte) [][]byte {
	var out [][]byte
	for _, b := range l {
		out = append(out, slices.Clone(b))
	}
	return out
}

// wrongHeaps are heaps that Write refuses.
func wrongHeaps() []heap {
	return []heap{
		bare(4, 32, 0, 8, 0), bare(0, 32, 8, 8, 0, 8, 8, 1), bare(0, 32, 8, 8, 0, 0, 8, 1), bare(0, 32, 0, 8, 1, 8, 8, 1), bare(0, 32, 0, 8, -1), bare(0, 32, 0, 8, 32), bare(1, 32, 4, 4, 0),
		{0, 32, row(0, 4, 0), nil}, {0, 32, nil, none(1)}, {0, 32, row(0, 4, 0), [][]byte{fill(17)}}, {math.MinInt, math.MaxInt, row(0, 4, 0), none(1)},
	}
}

func TestWriteChangesNothing(t *testing.T) {
	for _, was := range append(heaps(21, 100), wrongHeaps()...) {
		h := roomyHeap(was)
		Write(h.from, h.to, h.used, h.data)
		unchanged(t, h, was)
	}
}

func TestReadChangesNothing(t *testing.T) {
	look := func(from, to int, b []byte, heads []int) {
		gotB, gotHeads := roomy(b, oddByte), roomy(heads, oddHead)
		Read(from, to, gotB, gotHeads)
		if !bytes.Equal(gotB, b) || !slices.Equal(gotHeads, heads) || !spareIs(gotB, oddByte) || !spareIs(gotHeads, oddHead) {
			t.Fatalf("Read(%d, %d, %v, %v) changed something", from, to, b, heads)
		}
	}
	for _, h := range heaps(22, 100) {
		b, heads := laid(h)
		look(h.from, h.to, b, heads)
		look(h.from, h.to, b, heads[1:])
		look(h.from, h.to, b, slices.Repeat([]int{1}, lists))
		look(h.to, h.from, b, heads)
		for _, w := range []int{0, 1, 2, 3, len(b)/8 - 1} {
			if w >= 0 && w < len(b)/8 {
				other := slices.Clone(b)
				putWord(other, w, 257)
				look(h.from, h.to, other, heads)
			}
		}
	}
}

// TestNothingIsKept: an answer stays as it was, when what was handed in is written over, and what is asked then is of no more than what is handed in then.
func TestNothingIsKept(t *testing.T) {
	for _, was := range heaps(23, 100) {
		wantB, wantHeads := laid(was)
		h := roomyHeap(was)
		b, heads, _ := Write(h.from, h.to, h.used, h.data)
		scribble(h.used, odd())
		scribbleRows(h.data)
		if !bytes.Equal(b, wantB) || !slices.Equal(heads, wantHeads) {
			t.Fatalf("Write(%v) shares memory", was)
		}
		if len(h.used) > 0 {
			refused(t, h)
		}
		inB, inHeads := roomy(wantB, oddByte), roomy(wantHeads, oddHead)
		used, data, _ := Read(was.from, was.to, inB, inHeads)
		scribble(inB, oddByte)
		scribble(inHeads, oddHead)
		if !slices.Equal(used, was.used) || !sameRows(data, padded(was)) {
			t.Fatalf("Read of the bytes of %v shares memory", was)
		}
		notRead(t, was.from, was.to, inB, inHeads)
		look(t, was)
	}
}

// TestWritesAnswerNewMemory: what was handed in, and other answers, stay as they were, when an answer and its spare room are written over.
func TestWritesAnswerNewMemory(t *testing.T) {
	for _, was := range heaps(24, 100) {
		wantB, wantHeads := laid(was)
		h := roomyHeap(was)
		firstB, firstHeads, _ := Write(h.from, h.to, h.used, h.data)
		secondB, secondHeads, _ := Write(h.from, h.to, h.used, h.data)
		scribble(firstB, oddByte-1)
		scribble(firstHeads, oddHead-1)
		if !bytes.Equal(secondB, wantB) || !slices.Equal(secondHeads, wantHeads) {
			t.Fatalf("two answers of Write(%v) share memory", was)
		}
		scribble(secondB, oddByte-1)
		scribble(secondHeads, oddHead-1)
		unchanged(t, h, was)
		look(t, h)
	}
}

func TestReadsAnswerNewMemory(t *testing.T) {
	for _, was := range heaps(25, 100) {
		wantB, wantHeads := laid(was)
		b, heads := roomy(wantB, oddByte), roomy(wantHeads, oddHead)
		firstUsed, firstData, _ := Read(was.from, was.to, b, heads)
		secondUsed, secondData, _ := Read(was.from, was.to, b, heads)
		scribble(firstUsed, api.Block{})
		for _, row := range firstData[:cap(firstData)] {
			scribble(row, oddByte-1)
		}
		scribble(firstData, nil)
		if !slices.Equal(secondUsed, was.used) || !sameRows(secondData, padded(was)) {
			t.Fatalf("two answers of Read of the bytes of %v share memory", was)
		}
		if !bytes.Equal(b, wantB) || !slices.Equal(heads, wantHeads) || !spareIs(b, oddByte) || !spareIs(heads, oddHead) {
			t.Fatalf("Read of the bytes of %v answers memory that was handed in", was)
		}
	}
}

// TestRowsOfOneAnswer: each row of data has memory of its own, spare room too.
func TestRowsOfOneAnswer(t *testing.T) {
	for _, h := range heaps(26, 60) {
		b, heads := laid(h)
		_, data, _ := Read(h.from, h.to, b, heads)
		want := deepRows(data)
		for k := range data {
			scribble(data[k], oddByte)
			scribble(want[k], oddByte)
			if !sameRows(data, want) {
				t.Fatalf("%v: row %d shares memory with another one", h, k)
			}
		}
	}
}

// TestRowsHandedInTwice: data may share memory with each other, which is no fault of theirs.
func TestRowsHandedInTwice(t *testing.T) {
	b := fill(16)
	look(t, heap{0, 32, row(0, 4, 0, 4, 4, 1, 16, 8, 2), [][]byte{b, b, b[:9]}})
}
