package slab

import (
	"bytes"
	"slices"
	"testing"

	"joist/api"
	sizes "joist/class"
	"joist/words"
)

// P15.4

func TestWhatIsWrittenIsRead(t *testing.T) {
	for _, p := range slabs(41, 2000) {
		b, e := write(p)
		if e != api.OK {
			t.Fatalf("Write(%v) tells %v", p, e)
		}
		class, cells, data, next, prev, is := Read(b)
		if !is || class != p.class || !slices.Equal(cells, p.cells) || len(data) != len(p.data) || next != p.next || prev != p.prev {
			t.Fatalf("Read of Write(%v) = %d, %v, %v, %d, %d, %v", p, class, cells, data, next, prev, is)
		}
		room, _ := sizes.Words(class)
		for k, row := range data {
			n := len(p.data[k])
			if len(row) != 8*room || !bytes.Equal(row[:n], p.data[k]) || !words.Zero(row[n:]) {
				t.Fatalf("%v: data %d = %v; want %v with bytes 0 behind", p, k, row, p.data[k])
			}
		}
	}
}

func TestWhatIsReadIsWritten(t *testing.T) {
	for _, p := range slabs(42, 2000) {
		b := laid(p)
		class, cells, data, next, prev, is := Read(b)
		if !is {
			t.Fatalf("the bytes of %v are not read", p)
		}
		again, e := Write(class, cells, data, next, prev)
		if e != api.OK || !bytes.Equal(again, b) {
			t.Fatalf("Write of Read of the bytes of %v = %v, %v", p, again, e)
		}
	}
}

// TestSlabsThatGoOn: cells come and go, and each time the slab is what is read of its bytes.
func TestSlabsThatGoOn(t *testing.T) {
	roll := dice(43)
	for range 60 {
		p := rolled(roll)
		for range 60 {
			p = turn(roll, p)
			look(t, p)
			b, _ := write(p)
			_, p.cells, p.data, p.next, p.prev, _ = Read(b)
		}
	}
}

// turn takes a cell out, if another one stays, or brings one in; its neighbors may be others then.
func turn(roll func(int) int, p page) page {
	k := roll(countOf(p.class))
	i, is := slices.BinarySearch(p.cells, k)
	switch {
	case !is:
		p.cells = slices.Insert(p.cells, i, k)
		p.data = slices.Insert(p.data, i, fill(k, roll(holds(p.class)+1)))
	case len(p.cells) > 1:
		p.cells, p.data = slices.Delete(p.cells, i, i+1), slices.Delete(p.data, i, i+1)
	}
	return beside(p, roll(mostPages+1), roll(mostPages+1))
}

// P15.5

// TestCellsStandWhereClassTells: and all else behind the head is 0.
func TestCellsStandWhereClassTells(t *testing.T) {
	for _, p := range slabs(44, 2000) {
		b, _ := write(p)
		size, _ := sizes.Words(p.class)
		rest := slices.Clone(b)
		clear(rest[:headSize])
		for i, k := range p.cells {
			at, e := sizes.Cell(p.class, k)
			if e != api.OK || !bytes.HasPrefix(b[8*at:8*(at+size)], p.data[i]) {
				t.Fatalf("%v: the data of cell %d do not stand at word %d of %v", p, k, at, b)
			}
			clear(rest[8*at:][:len(p.data[i])])
		}
		if !words.Zero(rest) {
			t.Fatalf("Write(%v) = %v: something stands where nothing should", p, b)
		}
	}
}

// TestHeadsSayBits: the second word is what Bits tells.
func TestHeadsSayBits(t *testing.T) {
	for _, p := range slabs(45, 500) {
		b, _ := write(p)
		bits, e := Bits(p.class, p.cells)
		head, is := words.All(b[:headSize])
		if e != api.OK || !is || !slices.Equal(head, []int{p.class + 1, bits, p.next, p.prev}) {
			t.Fatalf("Write(%v) has the head %v; Bits tells %d, %v", p, head, bits, e)
		}
	}
}
