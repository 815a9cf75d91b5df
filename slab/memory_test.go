package slab

import (
	"bytes"
	"math"
	"slices"
	"testing"

	"joist/api"
)

// P15.3

const spareOf = 40

// What stands in spare room: no call writes it, and one that went by it would answer otherwise.
const (
	oddByte = 0xa5
	oddCell = -3
)

// roomy is a copy of l with spare room behind it.
func roomy[T any](l []T, spare T) []T {
	all := append(slices.Clone(l), slices.Repeat([]T{spare}, spareOf)...)
	return all[:len(l):len(all)]
}

// roomyPage is a copy of a slab with spare room behind each of its lists; behind its data stand rows with spare room, too.
func roomyPage(p page) page {
	p.cells = roomy(p.cells, oddCell)
	p.data = roomy(p.data, nil)
	for k := range p.data[:cap(p.data)] {
		p.data[:cap(p.data)][k] = roomy(p.data[:cap(p.data)][k], oddByte)
	}
	return p
}

// spareIs tells whether all that stands in l's spare room is as it was laid there.
func spareIs[T comparable](l []T, spare T) bool {
	return !slices.ContainsFunc(l[len(l):cap(l)], func(one T) bool { return one != spare })
}

func unchanged(t *testing.T, p, was page) {
	t.Helper()
	if !slices.Equal(p.cells, was.cells) || !spareIs(p.cells, oddCell) || !sameRows(p.data, was.data) {
		t.Fatalf("%v became %v, or its spare room is changed", was, p)
	}
	for k, row := range p.data[:cap(p.data)] {
		if !spareIs(row, oddByte) || k >= len(p.data) && len(row) != 0 {
			t.Fatalf("%v: the spare room of row %d is changed", was, k)
		}
	}
}

// scribble writes over a list, its spare room too.
func scribble[T any](l []T, with T) {
	for k := range l[:cap(l)] {
		l[:cap(l)][k] = with
	}
}

func scribbleRows(l [][]byte) {
	for _, row := range l[:cap(l)] {
		scribble(row, oddByte)
	}
	scribble(l, []byte{oddByte})
}

// deepRows is a copy of rows in all depths.
func deepRows(l [][]byte) [][]byte {
	var out [][]byte
	for _, row := range l {
		out = append(out, slices.Clone(row))
	}
	return out
}

// wrongPages are such as Write refuses.
func wrongPages() []page {
	return []page{
		full(0, 1, 0), full(0, 1, 1), full(0, 14), full(0, 0, 14), full(5, 1), bare(0), bare(-1, 0), bare(6, 0), bare(math.MaxInt, 0), bare(math.MinInt, 0),
		beside(full(1, 0), -1, 0), beside(full(1, 0), 0, 65),
		{2, []int{0}, nil, 0, 0}, {2, nil, [][]byte{{1}}, 0, 0}, {2, []int{0, 1}, [][]byte{{1}, fill(0, 41)}, 0, 0},
	}
}

func TestWriteChangesNothing(t *testing.T) {
	for _, was := range append(slabs(31, 300), wrongPages()...) {
		p := roomyPage(was)
		write(p)
		Bits(p.class, p.cells)
		unchanged(t, p, was)
	}
}

func TestReadChangesNothing(t *testing.T) {
	leaves := func(was []byte) {
		b := roomy(was, oddByte)
		Read(b)
		if !bytes.Equal(b, was) || !spareIs(b, oddByte) {
			t.Fatalf("Read(%v) changed something", was)
		}
	}
	leaves(nil)
	for _, p := range slabs(32, 300) {
		b := laid(p)
		leaves(b)
		leaves(b[:pageSize-1])
		leaves(append(b, 0))
		for at := range 4 {
			other := slices.Clone(b)
			putWord(other, at, 777)
			leaves(other)
		}
		b[pageSize-1] ^= 1
		leaves(b)
	}
}

// TestSpareRoomSaysNothing: what stands there changes no answer.
func TestSpareRoomSaysNothing(t *testing.T) {
	for _, was := range slabs(33, 300) {
		p := roomyPage(was)
		look(t, p)
		reads(t, roomy(laid(was), oddByte), was)
		bits, e := Bits(was.class, was.cells)
		if got, gotE := Bits(p.class, p.cells); got != bits || gotE != e {
			t.Fatalf("Bits(%d, %v) goes by the spare room", was.class, was.cells)
		}
	}
}

// TestNothingIsKept: an answer stays as it was, when what was handed in is written over, and what is asked then is of no more than what is handed in then.
func TestNothingIsKept(t *testing.T) {
	for _, was := range slabs(34, 300) {
		p := roomyPage(was)
		b, _ := write(p)
		scribble(p.cells, oddCell)
		scribbleRows(p.data)
		if !bytes.Equal(b, laid(was)) {
			t.Fatalf("Write(%v) shares memory", was)
		}
		refused(t, p)
		in := roomy(laid(was), oddByte)
		class, cells, data, next, prev, is := Read(in)
		scribble(in, oddByte)
		got := page{class, cells, data, next, prev}
		if !is || !slices.Equal(cells, was.cells) || !sameRows(data, padded(was)) {
			t.Fatalf("Read of the bytes of %v shares memory: %v", was, got)
		}
		notRead(t, in)
		look(t, was)
	}
}

// TestAnswersAreNewMemory: what was handed in, and other answers, stay as they were, when an answer and its spare room are written over.
func TestAnswersAreNewMemory(t *testing.T) {
	for _, was := range slabs(35, 300) {
		p := roomyPage(was)
		first, _ := write(p)
		second, _ := write(p)
		scribble(first, oddByte-1)
		if !bytes.Equal(second, laid(was)) {
			t.Fatalf("two answers of Write(%v) share memory", was)
		}
		scribble(second, oddByte-1)
		unchanged(t, p, was)
		look(t, p)
		b := roomy(laid(was), oddByte)
		_, firstCells, firstData, _, _, _ := Read(b)
		_, secondCells, secondData, _, _, _ := Read(b)
		scribble(firstCells, oddCell-1)
		scribbleRows(firstData)
		if !slices.Equal(secondCells, was.cells) || !sameRows(secondData, padded(was)) {
			t.Fatalf("two answers of Read of the bytes of %v share memory", was)
		}
		if !bytes.Equal(b, laid(was)) || !spareIs(b, oddByte) {
			t.Fatalf("Read of the bytes of %v answers memory that was handed in", was)
		}
		reads(t, b, was)
	}
}

// TestRowsOfOneAnswer: each row of data has memory of its own, spare room too.
func TestRowsOfOneAnswer(t *testing.T) {
	for _, p := range slabs(36, 300) {
		_, cells, data, _, _, _ := Read(laid(p))
		want := deepRows(data)
		for k := range data {
			scribble(data[k], oddByte)
			scribble(want[k][:len(data[k])], oddByte)
			if !sameRows(data, want) || !slices.Equal(cells, p.cells) {
				t.Fatalf("%v: row %d shares memory with another one", p, k)
			}
		}
	}
}

// TestRowsHandedInTwice: data may share memory with each other, which is no fault of theirs.
func TestRowsHandedInTwice(t *testing.T) {
	row := fill(0, 24)
	look(t, page{1, []int{0, 3, 8}, [][]byte{row, row, row[:9]}, 1, 2})
	if b, e := Write(1, []int{0, 1}, [][]byte{row[:8], row[8:]}, 0, 0); e != api.OK || !bytes.Equal(b[56:72], row[8:]) {
		t.Errorf("parts of one row: %v, %v", b, e)
	}
}

// TestNilAndEmpty: they are the same, within data too.
func TestNilAndEmpty(t *testing.T) {
	for class := range classes {
		for _, row := range [][]byte{nil, {}, make([]byte, 0, 9)} {
			look(t, page{class: class, cells: []int{0}, data: [][]byte{row}})
		}
		for _, cells := range [][]int{nil, {}} {
			bitsAre(t, class, cells, 0)
			for _, data := range [][][]byte{nil, {}} {
				refused(t, page{class: class, cells: cells, data: data})
			}
		}
	}
	notRead(t, nil)
	notRead(t, []byte{})
}
