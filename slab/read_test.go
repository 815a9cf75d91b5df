package slab

import (
	"bytes"
	"encoding/binary"
	"math"
	"slices"
	"testing"
)

// P15.2

func reads(t *testing.T, b []byte, want page) {
	t.Helper()
	class, cells, data, next, prev, is := Read(b)
	if !is || class != want.class || !slices.Equal(cells, want.cells) || !sameRows(data, padded(want)) || next != want.next || prev != want.prev {
		t.Fatalf("Read(%v) = %d, %v, %v, %d, %d, %v; want %v", b, class, cells, data, next, prev, is, want)
	}
}

func notRead(t *testing.T, b []byte) {
	t.Helper()
	class, cells, data, next, prev, is := Read(b)
	if is || class != 0 || len(cells) != 0 || len(data) != 0 || next != 0 || prev != 0 {
		t.Fatalf("Read(%.1200v) = %d, %v, %v, %d, %d, %v; want all zero, none, false", b, class, cells, data, next, prev, is)
	}
}

func word(b []byte, at int) uint64 { return binary.LittleEndian.Uint64(b[8*at:]) }

func putWord(b []byte, at int, n uint64) { binary.LittleEndian.PutUint64(b[8*at:], n) }

// known is the tests' own reader: it asks of each word of the head, and of each byte behind it, what the chapter says.
func known(b []byte) (page, bool) {
	if len(b) != pageSize || word(b, 0) < 1 || word(b, 0) > classes || word(b, 2) > mostPages || word(b, 3) > mostPages {
		return page{}, false
	}
	p := page{class: int(word(b, 0)) - 1, next: int(word(b, 2)), prev: int(word(b, 3))}
	bits, count, size := word(b, 1), countOf(p.class), holds(p.class)
	if bits == 0 || bits >= 1<<count {
		return page{}, false
	}
	for i, one := range b[headSize:] {
		k := i / size
		used := k < count && bits&(1<<k) != 0
		if !used && one != 0 {
			return page{}, false
		}
		if used && i%size == 0 {
			p.cells = append(p.cells, k)
			p.data = append(p.data, b[headSize+i:headSize+i+size])
		}
	}
	return p, true
}

// hold holds Read against the tests' own reader; it tells whether the bytes are a slab's.
func hold(t *testing.T, b []byte) bool {
	t.Helper()
	p, is := known(b)
	if is {
		reads(t, b, p)
	} else {
		notRead(t, b)
	}
	return is
}

func TestReadByHand(t *testing.T) {
	b := make([]byte, pageSize)
	b[0], b[8], b[48] = 1, 2, 7
	reads(t, b, page{0, []int{1}, [][]byte{{7}}, 0, 0})
	b = make([]byte, pageSize)
	b[0], b[8], b[16], b[24], b[32], b[80], b[81] = 2, 5, 3, 64, 7, 8, 9
	reads(t, b, page{1, []int{0, 2}, [][]byte{{7}, {8, 9}}, 3, 64})
	b = make([]byte, pageSize)
	b[0], b[8], b[16] = 6, 1, 1
	reads(t, b, page{5, []int{0}, [][]byte{nil}, 1, 0})
	// A word of a cell is no number: all bytes may stand there.
	for i := headSize; i < headSize+120; i++ {
		b[i] = 255
	}
	reads(t, b, page{5, []int{0}, [][]byte{bytes.Repeat([]byte{255}, 120)}, 1, 0})
}

// TestReadHasWholeCells: of each cell all bytes are answered, those 0 behind the data too.
func TestReadHasWholeCells(t *testing.T) {
	for class := range classes {
		for n := range holds(class) + 1 {
			p := page{class: class, cells: upTo(countOf(class))}
			for _, k := range p.cells {
				p.data = append(p.data, fill(k, n))
			}
			_, _, data, _, _, is := Read(laid(p))
			if !is || len(data) != countOf(class) {
				t.Fatalf("Read of the bytes of %v: %v, %v", p, data, is)
			}
			for k, row := range data {
				if len(row) != holds(class) || !bytes.Equal(row[:n], p.data[k]) || len(bytes.Trim(row[n:], "\x00")) > 0 {
					t.Fatalf("class %d: cell %d of %d bytes is read as %v", class, k, n, row)
				}
			}
		}
	}
}

func TestReadOfOtherLengths(t *testing.T) {
	notRead(t, nil)
	notRead(t, []byte{})
	for _, p := range []page{full(0, upTo(14)...), bare(0, 1), full(5, 0), bare(5, 0)} {
		b := append(laid(p), laid(p)...)
		b = append(b, make([]byte, 4096)...)
		for n := range len(b) + 1 {
			if n != pageSize {
				notRead(t, b[:n])
			}
		}
		reads(t, b[:pageSize], p)
		padded := append(laid(p), make([]byte, 1024)...)
		for n := pageSize + 1; n <= len(padded); n++ {
			notRead(t, padded[:n])
		}
	}
}

// TestReadOfTurnedBytes: each byte at each place with some bit turned, and with other numbers.
func TestReadOfTurnedBytes(t *testing.T) {
	still, none := 0, 0
	for _, p := range slabs(2, 60) {
		b := laid(p)
		for at := range b {
			was := b[at]
			for _, other := range []byte{was ^ 1, was ^ 2, was ^ 4, was ^ 8, was ^ 16, was ^ 32, was ^ 64, was ^ 128, was + 1, was - 1, 0, 255} {
				b[at] = other
				if hold(t, b) {
					still++
				} else {
					none++
				}
			}
			b[at] = was
		}
	}
	if still < 1000 || none < 1000 {
		t.Errorf("%d slabs, %d none", still, none)
	}
}

// TestReadOfTurnedWords: words of the head, each with numbers that it may have, and such as it may not.
func TestReadOfTurnedWords(t *testing.T) {
	numbers := []uint64{0, 1, 2, 3, 4, 5, 6, 7, 8, 9, 31, 32, 63, 64, 65, 255, 256, 257, 511, 512, 1023, 8191, 8192, 16383, 16384, 32767, 1 << 31, 1 << 32, 1<<32 + 1, 1<<61 + 1, 1<<62 - 1, 1 << 62, 1<<62 + 1, math.MaxInt64, 1 << 63, 1<<63 + 1, 1<<63 + 2, math.MaxUint64}
	for _, p := range slabs(3, 60) {
		b := laid(p)
		for at := range 4 {
			was := word(b, at)
			for _, n := range numbers {
				putWord(b, at, n)
				hold(t, b)
			}
			for k := range 64 {
				putWord(b, at, was^1<<k)
				hold(t, b)
				putWord(b, at, was|1<<k)
				hold(t, b)
			}
			putWord(b, at, was)
		}
	}
}

// TestReadOfWrongHeads: by hand, of a slab all of whose cells are used, and full.
func TestReadOfWrongHeads(t *testing.T) {
	for class := range classes {
		count := countOf(class)
		b := laid(full(class, upTo(count)...))
		wrong := func(at int, numbers ...uint64) {
			t.Helper()
			was := word(b, at)
			for _, n := range numbers {
				putWord(b, at, n)
				notRead(t, b)
			}
			putWord(b, at, was)
		}
		great := []uint64{1<<62 - 1, 1 << 62, 1 << 63, math.MaxUint64, 1<<62 + word(b, 0), 1<<63 + 1}
		wrong(0, append(great, 0, 7, 8, 64, 256, 1<<32+uint64(class)+1, 1<<62+uint64(class)+1, 1<<63+uint64(class)+1)...)
		all := uint64(1)<<count - 1
		wrong(1, append(great, 0, all+1, all-1, all>>1, 2*all, 2*all+1, all+1<<32, all+1<<61, all+1<<62, all+1<<63)...)
		for k := count; k < 64; k++ {
			wrong(1, all|1<<k, 1<<k)
		}
		for k := range count {
			wrong(1, all&^(1<<k))
		}
		wrong(2, append(great, 65, 66, 128, 256, 1<<32, 1<<62, 1<<63)...)
		wrong(3, append(great, 65, 66, 128, 256, 1<<32, 1<<62, 1<<63)...)
		reads(t, b, full(class, upTo(count)...))
	}
}

// TestReadOfBareHeads: a page of bytes 0 behind its head is a slab of each class whose bits are right, and of no other.
func TestReadOfBareHeads(t *testing.T) {
	b := make([]byte, pageSize)
	notRead(t, b)
	for class := range uint64(9) {
		for bits := range uint64(1<<14 + 3) {
			putWord(b, 0, class)
			putWord(b, 1, bits)
			want := class >= 1 && class <= classes && bits >= 1 && bits < 1<<countOf(int(max(class, 1)-1)%classes)
			if hold(t, b) != want {
				t.Fatalf("words %d, %d: a slab: %v; want %v", class, bits, !want, want)
			}
		}
	}
}

// TestReadOfStrayBytes: a byte that is not 0 in a cell that is not used, or behind the last one.
func TestReadOfStrayBytes(t *testing.T) {
	for class := range classes {
		count, size := countOf(class), holds(class)
		for k := range count {
			p := full(class, slices.Delete(upTo(count), k, k+1)...)
			if count == 1 {
				continue
			}
			b := laid(p)
			for at := headSize + k*size; at < headSize+(k+1)*size; at++ {
				for _, n := range []byte{1, 7, 128, 255} {
					b[at] = n
					notRead(t, b)
				}
				b[at] = 0
			}
			reads(t, b, p)
		}
		p := full(class, upTo(count)...)
		b := laid(p)
		for at := headSize + count*size; at < pageSize; at++ {
			for _, n := range []byte{1, 7, 128, 255} {
				b[at] = n
				notRead(t, b)
			}
			b[at] = 0
		}
		reads(t, b, p)
	}
}

// TestReadOfRolledBytes: bytes of no kind, and such with a head that may be right.
func TestReadOfRolledBytes(t *testing.T) {
	roll := dice(4)
	b := make([]byte, pageSize)
	for range 20000 {
		for i := range b {
			b[i] = byte(roll(256))
		}
		hold(t, b)
		for at := range 4 {
			putWord(b, at, uint64(roll(8)))
		}
		hold(t, b)
		clear(b[headSize+roll(pageSize-headSize):])
		hold(t, b)
	}
}
