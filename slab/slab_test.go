package slab

import (
	"bytes"
	"encoding/binary"
	"math"
	"slices"
	"testing"

	"joist/api"
)

// The limits, written out: the tests must not lean on what they hold the package against.
const (
	mostPages = 64
	pageSize  = 256 // bytes
	headSize  = 32  // bytes
	classes   = 6
)

// holds is how many bytes a cell of a class holds.
func holds(class int) int { return []int{16, 24, 40, 56, 80, 120}[class] }

// countOf is how many cells a slab of a class has.
func countOf(class int) int { return []int{14, 9, 5, 4, 2, 1}[class] }

// dice are numbers without an order that anybody sees, but the same each time.
func dice(seed uint32) func(n int) int {
	return func(n int) int {
		seed = seed*1664525 + 1013904223
		return int(seed>>8) % n
	}
}

// page is a slab, or something near it.
type page struct {
	class      int
	cells      []int
	data       [][]byte
	next, prev int
}

// fill are n bytes that are not 0, nor alike.
func fill(from, n int) []byte {
	b := make([]byte, n)
	for i := range b {
		b[i] = byte(1 + (from+i)%255)
	}
	return b
}

// full is a slab without neighbors each of whose cells is as full of bytes as may be, no two of them alike.
func full(class int, cells ...int) page {
	p := page{class: class, cells: cells}
	for _, k := range cells {
		p.data = append(p.data, fill(13*k, holds(class)))
	}
	return p
}

// bare is a slab without neighbors whose data have no bytes.
func bare(class int, cells ...int) page {
	return page{class: class, cells: cells, data: make([][]byte, len(cells))}
}

func beside(p page, next, prev int) page {
	p.next, p.prev = next, prev
	return p
}

// upTo are the numbers from 0 on, n of them.
func upTo(n int) []int {
	l := make([]int, n)
	for k := range l {
		l[k] = k
	}
	return l
}

// chosen are the numbers below n whose bits are set.
func chosen(n, bits int) []int {
	var l []int
	for k := range n {
		if bits&(1<<k) != 0 {
			l = append(l, k)
		}
	}
	return l
}

// laid is what the chapter says that a slab's bytes are, laid byte by byte.
func laid(p page) []byte {
	bits := uint64(0)
	for _, k := range p.cells {
		bits |= 1 << k
	}
	b := ofWords(uint64(p.class)+1, bits, uint64(p.next), uint64(p.prev))
	for k := range countOf(p.class) {
		cell := make([]byte, holds(p.class))
		if i := slices.Index(p.cells, k); i >= 0 {
			copy(cell, p.data[i])
		}
		b = append(b, cell...)
	}
	return append(b, make([]byte, pageSize-len(b))...)
}

// ofWords are words in bytes, whatever they are.
func ofWords(l ...uint64) []byte {
	var b []byte
	for _, n := range l {
		b = binary.LittleEndian.AppendUint64(b, n)
	}
	return b
}

// padded are data with bytes 0 behind, up to what a cell holds.
func padded(p page) [][]byte {
	var l [][]byte
	for _, row := range p.data {
		l = append(l, append(slices.Clone(row), make([]byte, holds(p.class)-len(row))...))
	}
	return l
}

func sameRows(a, b [][]byte) bool { return slices.EqualFunc(a, b, bytes.Equal) }

func write(p page) ([]byte, api.Errno) { return Write(p.class, p.cells, p.data, p.next, p.prev) }

// look holds Write of a slab, and Read of what was written, against the tests' own reckoning.
func look(t *testing.T, p page) {
	t.Helper()
	b, e := write(p)
	if e != api.OK || !bytes.Equal(b, laid(p)) {
		t.Fatalf("Write(%v) = %v, %v; want %v", p, b, e, laid(p))
	}
	reads(t, b, p)
}

func refused(t *testing.T, p page) {
	t.Helper()
	if b, e := write(p); len(b) != 0 || e != api.ErrArg {
		t.Fatalf("Write(%.300v) = %v, %v; want none, ErrArg", p, b, e)
	}
}

// rolled is a slab, with data of all lengths.
func rolled(roll func(int) int) page {
	class := roll(classes)
	p := page{class: class, cells: chosen(countOf(class), 1+roll(1<<countOf(class)-1)), next: roll(mostPages + 1), prev: roll(mostPages + 1)}
	for range p.cells {
		row := make([]byte, roll(holds(class)+1))
		for i := range row {
			row[i] = byte(roll(256))
		}
		p.data = append(p.data, row)
	}
	return p
}

// slabs are right ones: the edges of each class, and some that are rolled.
func slabs(seed uint32, n int) []page {
	l := []page{{0, []int{1}, [][]byte{{7}}, 0, 0}, {1, []int{0, 2}, [][]byte{{7}, {8, 9}}, 3, 0}}
	for class := range classes {
		count := countOf(class)
		l = append(l, full(class, 0), full(class, count-1), full(class, upTo(count)...), bare(class, 0), bare(class, upTo(count)...))
		l = append(l, beside(full(class, upTo(count)...), mostPages, 1), beside(bare(class, count-1), 1, mostPages))
	}
	roll := dice(seed)
	for range n {
		l = append(l, rolled(roll))
	}
	return l
}

// far are numbers that are no class, no cell, no page. Those past 2^32 have one in their lower half.
func far() []int {
	return []int{math.MinInt, math.MinInt + 1, math.MinInt / 2, -1 << 32, -1<<32 + 1, -64, -2, -1, 65, 66, 128, 256, 1 << 31, 1 << 32, 1<<32 + 1, 1 << 62, 1<<62 + 1, math.MaxInt - 1, math.MaxInt}
}

// P15.1: Bits

func bitsAre(t *testing.T, class int, cells []int, want int) {
	t.Helper()
	if bits, e := Bits(class, cells); bits != want || e != api.OK {
		t.Errorf("Bits(%d, %v) = %d, %v; want %d", class, cells, bits, e, want)
	}
}

func noBits(t *testing.T, class int, cells []int) {
	t.Helper()
	if bits, e := Bits(class, cells); bits != 0 || e != api.ErrArg {
		t.Errorf("Bits(%d, %.300v) = %d, %v; want 0, ErrArg", class, cells, bits, e)
	}
}

func TestBitsByHand(t *testing.T) {
	bitsAre(t, 0, []int{1}, 2)
	bitsAre(t, 1, []int{0, 2}, 5)
	for class, all := range []int{16383, 511, 31, 15, 3, 1} {
		last := []int{8192, 256, 16, 8, 2, 1}[class]
		bitsAre(t, class, nil, 0)
		bitsAre(t, class, []int{}, 0)
		bitsAre(t, class, []int{0}, 1)
		bitsAre(t, class, []int{countOf(class) - 1}, last)
		bitsAre(t, class, upTo(countOf(class)), all)
	}
}

func TestBitsOfAllCells(t *testing.T) {
	for class := range classes {
		for bits := range 1 << countOf(class) {
			bitsAre(t, class, chosen(countOf(class), bits), bits)
		}
	}
}

func TestBitsOfNoClass(t *testing.T) {
	for _, class := range append(far(), 6, 7, 8, 64) {
		noBits(t, class, nil)
		noBits(t, class, []int{})
		noBits(t, class, []int{0})
		noBits(t, class, []int{0, 1})
		noBits(t, class, []int{-1})
	}
}

// wrongCells are such as no slab of a class has.
func wrongCells(class int) [][]int {
	count := countOf(class)
	l := [][]int{{0, 0}, {count - 1, count - 1}, append(upTo(count), count), append(upTo(count), count-1), append(upTo(count), 0)}
	for _, k := range append(far(), count, count+1, 32, 63, 64) {
		l = append(l, []int{k}, []int{0, k}, []int{k, 0}, []int{count - 1, k}, append([]int{k}, upTo(count)...), append(upTo(count), k), []int{k, k})
	}
	if count > 1 {
		falling := upTo(count)
		slices.Reverse(falling)
		l = append(l, []int{1, 0}, falling, append([]int{0}, upTo(count)...))
	}
	if count > 2 {
		l = append(l, []int{0, 2, 1}, []int{0, 1, 1}, []int{1, 2, 0}, []int{1, 0, 2})
	}
	return l
}

func TestBitsOfWrongCells(t *testing.T) {
	for class := range classes {
		for _, cells := range wrongCells(class) {
			noBits(t, class, cells)
		}
	}
	noBits(t, 0, make([]int, 1<<16))
	noBits(t, 0, upTo(1<<16))
}

// TestBitsOfPairs: each two numbers around the edges, of which some are cells that rise.
func TestBitsOfPairs(t *testing.T) {
	for class := -2; class < classes+2; class++ {
		for a := -2; a < 17; a++ {
			for b := -2; b < 17; b++ {
				if class >= 0 && class < classes && a >= 0 && a < b && b < countOf(class) {
					bitsAre(t, class, []int{a, b}, 1<<a|1<<b)
				} else {
					noBits(t, class, []int{a, b})
				}
			}
		}
	}
}

// P15.1: Write

// TestWrittenByHand: the words as they stand in the chapter, and others like them, written out.
func TestWrittenByHand(t *testing.T) {
	for _, one := range []struct {
		p     page
		words []uint64
	}{
		{page{0, []int{1}, [][]byte{{7}}, 0, 0}, []uint64{1, 2, 0, 0, 0, 0, 7}},
		{page{1, []int{0, 2}, [][]byte{{7}, {8, 9}}, 3, 0}, []uint64{2, 5, 3, 0, 7, 0, 0, 0, 0, 0, 2312}},
		{page{0, []int{0}, [][]byte{nil}, 0, 0}, []uint64{1, 1}},
		{page{0, []int{13}, [][]byte{{1, 0, 0, 0, 0, 0, 0, 0, 2, 0, 0, 0, 0, 0, 0, 128}}, 64, 1}, append(append([]uint64{1, 8192, 64, 1}, make([]uint64, 26)...), 1, 1<<63+2)},
		{page{1, []int{8}, [][]byte{{5}}, 1, 64}, append(append([]uint64{2, 256, 1, 64}, make([]uint64, 24)...), 5)},
		{page{2, []int{0, 4}, [][]byte{{3}, {4}}, 64, 64}, append(append([]uint64{3, 17, 64, 64, 3}, make([]uint64, 19)...), 4)},
		{page{3, []int{3}, [][]byte{{0, 1}}, 2, 0}, append(append([]uint64{4, 8, 2, 0}, make([]uint64, 21)...), 256)},
		{page{4, []int{0, 1}, [][]byte{{6}, {7}}, 0, 9}, append(append([]uint64{5, 3, 0, 9, 6}, make([]uint64, 9)...), 7)},
		{page{5, []int{0}, [][]byte{append(make([]byte, 119), 9)}, 0, 0}, append(append([]uint64{6, 1}, make([]uint64, 16)...), 9<<56)},
	} {
		want := append(ofWords(one.words...), make([]byte, pageSize-8*len(one.words))...)
		if b, e := write(one.p); e != api.OK || !bytes.Equal(b, want) {
			t.Errorf("Write(%v) = %v, %v; want %v", one.p, b, e, want)
		}
		look(t, one.p)
	}
}

func TestWriteOfEachLength(t *testing.T) {
	for class := range classes {
		for _, k := range upTo(countOf(class)) {
			for n := range holds(class) + 1 {
				look(t, page{class: class, cells: []int{k}, data: [][]byte{fill(k, n)}})
			}
			refused(t, page{class: class, cells: []int{k}, data: [][]byte{make([]byte, holds(class)+1)}})
		}
	}
}

func TestWriteOfAllCells(t *testing.T) {
	for class := range classes {
		for bits := 1; bits < 1<<countOf(class); bits++ {
			look(t, full(class, chosen(countOf(class), bits)...))
		}
	}
}

func TestWriteOfSlabs(t *testing.T) {
	for _, p := range slabs(1, 2000) {
		look(t, p)
	}
}

func TestNeighbors(t *testing.T) {
	for class := range classes {
		p := full(class, countOf(class)-1)
		for next := range mostPages + 1 {
			for prev := range mostPages + 1 {
				look(t, beside(p, next, prev))
			}
		}
		for _, no := range far() {
			for _, other := range []int{0, 1, mostPages, no} {
				refused(t, beside(p, no, other))
				refused(t, beside(p, other, no))
			}
		}
	}
}

func TestWriteOfNoClass(t *testing.T) {
	for _, class := range append(far(), 6, 7, 8, 64) {
		refused(t, page{class: class, cells: []int{0}, data: [][]byte{{7}}})
		refused(t, page{class: class, cells: []int{0}, data: [][]byte{nil}})
		refused(t, page{class: class})
	}
}

func TestWriteOfWrongCells(t *testing.T) {
	for class := range classes {
		for _, cells := range wrongCells(class) {
			refused(t, bare(class, cells...))
			refused(t, full(class, cells...))
		}
		refused(t, bare(class))
		refused(t, page{class: class, cells: []int{}, data: [][]byte{}})
		refused(t, beside(bare(class), 1, 2))
	}
}

// TestWriteOfWrongData: as many as cells, and each no longer than one holds.
func TestWriteOfWrongData(t *testing.T) {
	for class := range classes {
		for bits := range min(1<<countOf(class), 64) {
			p := full(class, chosen(countOf(class), bits)...)
			for k, row := range p.data {
				p.data[k] = append(slices.Clone(row), 0)
				refused(t, p)
				p.data[k] = make([]byte, 1<<12)
				refused(t, p)
				p.data[k] = row
			}
			more := p
			more.data = append(slices.Clone(p.data), []byte{1})
			refused(t, more)
			more.data[len(p.data)] = nil
			refused(t, more)
			if len(p.data) > 0 {
				fewer := p
				fewer.data = p.data[:len(p.data)-1]
				refused(t, fewer)
				fewer.data = nil
				refused(t, fewer)
			}
		}
	}
}
