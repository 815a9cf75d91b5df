package tags

import (
	"bytes"
	"encoding/binary"
	"math"
	"slices"
	"testing"

	"joist/api"
)

// The limits, written out: the tests must not lean on what they hold the package against.
const (
	allWords = 2048 // of the greatest heap
	unit     = 4
	slots    = 32
	lists    = 7
)

// dice are numbers without an order that anybody sees, but the same each time.
func dice(seed uint32) func(n int) int {
	return func(n int) int {
		seed = seed*1664525 + 1013904223
		return int(seed>>8) % n
	}
}

// heap is one of format 1, or something near it.
type heap struct {
	from, to int
	used     []api.Block
	data     [][]byte
}

// row are blocks, by their At, Size, Index.
func row(numbers ...int) []api.Block {
	var l []api.Block
	for i := 0; i+2 < len(numbers); i += 3 {
		l = append(l, api.Block{At: numbers[i], Size: numbers[i+1], Index: numbers[i+2]})
	}
	return l
}

// none are n data without bytes.
func none(n int) [][]byte { return make([][]byte, n) }

// bare is a heap whose blocks have no data.
func bare(from, to int, numbers ...int) heap {
	used := row(numbers...)
	return heap{from, to, used, none(len(used))}
}

// fill are n bytes that are not 0, nor alike.
func fill(n int) []byte {
	b := make([]byte, n)
	for i := range b {
		b[i] = byte(1 + i%255)
	}
	return b
}

// room is how many bytes a block may hold.
func room(s api.Block) int { return 8*s.Size - 16 }

// full is a heap with each block as full of bytes as may be.
func full(h heap) heap {
	h.data = nil
	for _, s := range h.used {
		h.data = append(h.data, fill(room(s)))
	}
	return h
}

// word reads eight bytes, whatever they are.
func word(b []byte, at int) uint64 { return binary.LittleEndian.Uint64(b[8*at:]) }

func putWord(b []byte, at int, n uint64) { binary.LittleEndian.PutUint64(b[8*at:], n) }

// ofWords are words in bytes.
func ofWords(l ...int) []byte {
	var b []byte
	for _, n := range l {
		b = binary.LittleEndian.AppendUint64(b, uint64(n))
	}
	return b
}

// listOf is the list of a size that some block has.
func listOf(size int) int {
	switch {
	case size <= 4:
		return 0
	case size <= 8:
		return 1
	case size <= 16:
		return 2
	case size <= 32:
		return 3
	case size <= 64:
		return 4
	case size <= 128:
		return 5
	}
	return 6
}

// right is the tests' own reckoning of which heaps are, word by word.
func right(h heap) bool {
	if h.from < 0 || h.to < h.from || allWords < h.to || h.from&3 != 0 || h.to&3 != 0 || len(h.used) != len(h.data) {
		return false
	}
	var taken [allWords]bool
	seen, last := map[int]int{}, -1
	for k, s := range h.used {
		if s.At < h.from || s.At > h.to || s.Size < 4 || s.Size > allWords || s.At&3 != 0 || s.Size&3 != 0 || s.At <= last {
			return false
		}
		for w := s.At; w < s.At+s.Size; w++ {
			if w >= h.to || taken[w] {
				return false
			}
			taken[w] = true
		}
		if seen[s.Index]++; s.Index < 0 || s.Index > 31 || seen[s.Index] > 1 || len(h.data[k]) > room(s) {
			return false
		}
		last = s.At
	}
	return true
}

// free are the gaps of a heap that is right, found word by word.
func free(h heap) []api.Span {
	var taken [allWords]bool
	for _, s := range h.used {
		for w := s.At; w < s.At+s.Size; w++ {
			taken[w] = true
		}
	}
	var l []api.Span
	for w := h.from; w < h.to; w++ {
		if taken[w] {
			continue
		}
		if w == h.from || taken[w-1] {
			l = append(l, api.Span{At: w})
		}
		l[len(l)-1].Size++
	}
	return l
}

// neighbor looks through gaps for the first one of that list; 1 more than its At, or 0.
func neighbor(l []api.Span, list int) int {
	for _, s := range l {
		if listOf(s.Size) == list {
			return s.At + 1
		}
	}
	return 0
}

// laid is what the chapter says that a right heap's bytes and heads are.
func laid(h heap) ([]byte, []int) {
	b := make([]byte, 8*(h.to-h.from))
	for k, s := range h.used {
		tag := uint64(64*s.Size + s.Index + 1)
		putWord(b, s.At-h.from, tag)
		copy(b[8*(s.At-h.from)+8:], h.data[k])
		putWord(b, s.At-h.from+s.Size-1, tag)
	}
	l := free(h)
	for k, s := range l {
		ahead := slices.Clone(l[:k])
		slices.Reverse(ahead)
		putWord(b, s.At-h.from, uint64(64*s.Size))
		putWord(b, s.At-h.from+1, uint64(neighbor(l[k+1:], listOf(s.Size))))
		putWord(b, s.At-h.from+2, uint64(neighbor(ahead, listOf(s.Size))))
		putWord(b, s.At-h.from+s.Size-1, uint64(64*s.Size))
	}
	heads := make([]int, lists)
	for k := range heads {
		heads[k] = neighbor(l, k)
	}
	return b, heads
}

// padded are data with bytes 0 behind, up to their blocks' room.
func padded(h heap) [][]byte {
	var l [][]byte
	for k, s := range h.used {
		l = append(l, append(slices.Clone(h.data[k]), make([]byte, room(s)-len(h.data[k]))...))
	}
	return l
}

func sameRows(a, b [][]byte) bool { return slices.EqualFunc(a, b, bytes.Equal) }

// look holds Write against the tests' own reckoning, and Read of what was written; it tells whether the heap is right.
func look(t *testing.T, h heap) bool {
	t.Helper()
	if !right(h) {
		refused(t, h)
		return false
	}
	b, heads, e := Write(h.from, h.to, h.used, h.data)
	wantB, wantHeads := laid(h)
	if e != api.OK || !bytes.Equal(b, wantB) || !slices.Equal(heads, wantHeads) {
		t.Fatalf("Write(%d, %d, %v) = %v, %v, %v; want %v, %v", h.from, h.to, h.used, b, heads, e, wantB, wantHeads)
	}
	used, data, is := Read(h.from, h.to, b, heads)
	if !is || !slices.Equal(used, h.used) || !sameRows(data, padded(h)) {
		t.Fatalf("Read of Write(%d, %d, %v) = %v, %v, %v", h.from, h.to, h.used, used, data, is)
	}
	return true
}

func refused(t *testing.T, h heap) {
	t.Helper()
	if b, heads, e := Write(h.from, h.to, h.used, h.data); len(b) != 0 || len(heads) != 0 || e != api.ErrArg {
		t.Fatalf("Write(%d, %d, %.200v, %d data) = %.200v, %v, %v; want none, none, ErrArg", h.from, h.to, h.used, len(h.data), b, heads, e)
	}
}

// rollHeap is a right heap with up to 32 blocks, some of them side by side.
func rollHeap(roll func(int) int) heap {
	to := unit * roll(allWords/unit+1)
	h := heap{from: unit * roll(to/unit+1), to: to}
	open := make([]int, slots)
	for i := range open {
		j := roll(i + 1)
		open[i], open[j] = open[j], i
	}
	most := 1 + roll(40)
	for at := h.from + unit*roll(3)*roll(most); at < to && len(h.used) < slots; {
		s := api.Block{At: at, Size: min(unit*(1+roll(most)), to-at), Index: open[len(h.used)]}
		h.used = append(h.used, s)
		h.data = append(h.data, fill(room(s))[:roll(room(s)+1)])
		at += s.Size + unit*roll(2)*roll(most)
	}
	return h
}

// sevenLists is a heap with gaps of each list, of the least size of it and of the greatest.
func sevenLists() heap {
	h := heap{from: 32}
	at := h.from
	for k, size := range []int{4, 4, 8, 8, 12, 16, 20, 32, 36, 64, 68, 128, 132, 400} {
		h.used = append(h.used, api.Block{At: at + size, Size: 4, Index: k})
		h.data = append(h.data, fill(16))
		at += size + 4
	}
	h.to = at
	return h
}

// heaps are right ones: the edges by hand, and some that are rolled.
func heaps(seed uint32, n int) []heap {
	l := []heap{
		{0, 12, row(4, 4, 0), [][]byte{{7}}},
		bare(0, 12), bare(0, 0), bare(allWords, allWords), bare(64, 64), bare(0, allWords), bare(0, 4), bare(allWords-4, allWords), bare(32, 36),
		bare(0, 4, 0, 4, 31), full(bare(0, 4, 0, 4, 0)), full(bare(0, allWords, 0, allWords, 31)), full(bare(allWords-4, allWords, allWords-4, 4, 5)),
		full(bare(0, 32, 4, 8, 0)), full(bare(96, 128, 100, 8, 31)),
		full(bare(32, 64, 32, 8, 3, 40, 4, 1, 44, 20, 2)),      // side by side, no gap
		full(bare(32, 64, 36, 8, 3, 44, 4, 31, 48, 8, 0)),      // side by side, gaps at the ends
		bare(0, 20, 4, 12, 7),                                  // just two gaps of one list
		bare(0, 24, 4, 12, 7),                                  // just two gaps, of two lists
		bare(64, 128, 68, 8, 0, 84, 4, 1, 92, 4, 2, 120, 4, 3), // several of one list, with others between
		sevenLists(), full(sevenLists()),
	}
	roll := dice(seed)
	for range n {
		l = append(l, rollHeap(roll))
	}
	return l
}

// P11.1

func TestListEdges(t *testing.T) {
	for size, want := range map[int]int{4: 0, 5: 1, 7: 1, 8: 1, 9: 2, 16: 2, 17: 3, 32: 3, 33: 4, 64: 4, 65: 5, 128: 5, 129: 6, 130: 6, 256: 6, 2048: 6, 2052: 6, 1 << 40: 6, math.MaxInt - 1: 6, math.MaxInt: 6} {
		if k, is := List(size); k != want || !is {
			t.Errorf("List(%d) = %d, %v; want %d", size, k, is, want)
		}
	}
	for _, size := range []int{3, 2, 1, 0, -1, -3, -4, -5, -8, -128, -129, -1 << 40, math.MinInt + 4, math.MinInt + 1, math.MinInt} {
		if k, is := List(size); k != 0 || is {
			t.Errorf("List(%d) = %d, %v; want 0, false", size, k, is)
		}
	}
}

func TestListOfAll(t *testing.T) {
	for size := -2 * allWords; size <= 2*allWords; size++ {
		k, is := List(size)
		if want := size >= 4; is != want || want && k != listOf(size) || !want && k != 0 {
			t.Errorf("List(%d) = %d, %v", size, k, is)
		}
	}
}

// P11.2

// TestWrittenByHand: bytes and heads as they stand in the chapter, and others like them, written out.
func TestWrittenByHand(t *testing.T) {
	tail := func(n int, ahead ...int) []int { return append(ahead, make([]int, n)...) }
	for _, one := range []struct {
		h            heap
		words, heads []int
	}{
		{heap{0, 12, row(4, 4, 0), [][]byte{{7}}}, []int{256, 9, 0, 256, 257, 7, 0, 257, 256, 0, 1, 256}, []int{1, 0, 0, 0, 0, 0, 0}},
		{bare(0, 12), append(tail(10, 768), 768), []int{0, 0, 1, 0, 0, 0, 0}},
		{bare(8, 8), nil, []int{0, 0, 0, 0, 0, 0, 0}},
		{bare(4, 8), []int{256, 0, 0, 256}, []int{5, 0, 0, 0, 0, 0, 0}},
		{bare(allWords-8, allWords), []int{512, 0, 0, 0, 0, 0, 0, 512}, []int{0, 2041, 0, 0, 0, 0, 0}},
		{heap{0, 4, row(0, 4, 31), [][]byte{{1, 2, 0, 0, 0, 0, 0, 0, 3}}}, []int{288, 513, 3, 288}, []int{0, 0, 0, 0, 0, 0, 0}},
		{bare(0, allWords), append(tail(allWords-2, 131072), 131072), []int{0, 0, 0, 0, 0, 0, 1}},
		// Of three gaps of one list the one between has links both ways, and a longer one between them is none of theirs.
		{
			bare(32, 72, 36, 4, 0, 44, 4, 1, 56, 4, 2, 64, 4, 3),
			[]int{256, 41, 0, 256, 257, 0, 0, 257, 256, 61, 33, 256, 258, 0, 0, 258, 512, 0, 0, 0, 0, 0, 0, 512, 259, 0, 0, 259, 256, 69, 41, 256, 260, 0, 0, 260, 256, 0, 61, 256},
			[]int{33, 49, 0, 0, 0, 0, 0},
		},
	} {
		b, heads, e := Write(one.h.from, one.h.to, one.h.used, one.h.data)
		if e != api.OK || !bytes.Equal(b, ofWords(one.words...)) || !slices.Equal(heads, one.heads) {
			t.Errorf("Write(%v) = %v, %v, %v", one.h, b, heads, e)
		}
		if !look(t, one.h) {
			t.Errorf("%v is not right", one.h)
		}
	}
}

func TestRightHeaps(t *testing.T) {
	for _, h := range heaps(1, 300) {
		if !look(t, h) {
			t.Fatalf("%v is not right", h)
		}
	}
}

// TestGapsOfEachList: the heads and links of a heap with two gaps of each list, written out.
func TestGapsOfEachList(t *testing.T) {
	h := sevenLists()
	b, heads, e := Write(h.from, h.to, h.used, h.data)
	if want := []int{33, 49, 73, 109, 169, 277, 481}; e != api.OK || !slices.Equal(heads, want) {
		t.Fatalf("heads %v, %v; want %v", heads, e, want)
	}
	for _, pair := range [][2]int{{33, 41}, {49, 61}, {73, 89}, {109, 133}, {169, 209}, {277, 349}, {481, 617}} {
		first, second := pair[0]-1-h.from, pair[1]-1-h.from
		if word(b, first+1) != uint64(pair[1]) || word(b, first+2) != 0 || word(b, second+1) != 0 || word(b, second+2) != uint64(pair[0]) {
			t.Errorf("gaps %v: links %d %d, %d %d", pair, word(b, first+1), word(b, first+2), word(b, second+1), word(b, second+2))
		}
	}
}

// TestAllSmallHeaps: each row of blocks that a few units may hold.
func TestAllSmallHeaps(t *testing.T) {
	var lay func(h heap, at int)
	lay = func(h heap, at int) {
		look(t, full(h))
		for ; at < h.to; at += unit {
			for size := unit; size <= h.to-at; size += unit {
				more := h
				more.used = append(slices.Clone(h.used), api.Block{At: at, Size: size, Index: len(h.used) * 7 % 32})
				lay(more, at+size)
			}
		}
	}
	for _, from := range []int{0, 32, allWords - 6*unit} {
		lay(heap{from: from, to: from + 6*unit}, from)
	}
}

func TestGapsOfAllSizes(t *testing.T) {
	for size := unit; size <= allWords-12; size += unit {
		look(t, bare(0, size))
		look(t, bare(0, size+12, 4, 8, 0))
		look(t, bare(allWords-size-4, allWords, allWords-4, 4, 31))
	}
}

func TestEachIndex(t *testing.T) {
	for k := -70; k <= 140; k++ {
		is := look(t, bare(0, 16, 4, 4, k))
		if want := k >= 0 && k <= 31; is != want {
			t.Errorf("Index %d is right: %v", k, is)
		}
	}
	for _, k := range []int{math.MinInt, math.MinInt + 1, -1 << 32, 1 << 32, math.MaxInt} {
		refused(t, bare(0, 16, 4, 4, k))
		refused(t, bare(0, 16, 4, 4, 0, 8, 4, k))
	}
}

// TestAsManyBlocksAsSlots: all 32, and one more, which can have no Index of its own.
func TestAsManyBlocksAsSlots(t *testing.T) {
	h := heap{to: allWords}
	for k := range slots {
		h.used = append(h.used, api.Block{At: 8 * k, Size: 4, Index: slots - 1 - k})
	}
	h.data = none(slots)
	if !look(t, h) || !look(t, full(h)) {
		t.Fatal("32 blocks are not right")
	}
	for k := -1; k <= slots; k++ {
		refused(t, heap{0, allWords, append(slices.Clone(h.used), api.Block{At: 512, Size: 4, Index: k}), none(slots + 1)})
	}
}

func TestTwoOfOneIndex(t *testing.T) {
	for k := range slots {
		refused(t, bare(0, 32, 0, 4, k, 4, 4, k))
		refused(t, bare(0, 32, 0, 4, k, 8, 8, (k+1)%slots, 28, 4, k))
	}
}

// TestSizesOfData: from none up to all that a block holds, and past that.
func TestSizesOfData(t *testing.T) {
	for _, size := range []int{4, 8, 12, 64, 260, allWords} {
		most := 8*size - 16
		for _, n := range []int{0, 1, 7, 8, 9, 15, most - 8, most - 1, most, most + 1, most + 8, most + 9, most + 16, most + 17, 1 << 20} {
			is := look(t, heap{0, allWords, row(allWords-size, size, 9), [][]byte{fill(n)}})
			if want := n <= most; is != want {
				t.Errorf("%d bytes in %d words are right: %v", n, size, is)
			}
		}
	}
	refused(t, heap{0, 32, row(0, 4, 0, 4, 8, 1), [][]byte{fill(17), nil}})
	refused(t, heap{0, 32, row(0, 4, 0, 4, 8, 1), [][]byte{nil, fill(49)}})
}

// TestAnyBytesAreData: also those that are no word's number, and those that look like tags.
func TestAnyBytesAreData(t *testing.T) {
	for _, b := range [][]byte{bytes.Repeat([]byte{0xff}, 48), ofWords(math.MinInt, math.MaxInt, 1<<62, 256, 9, 256), make([]byte, 48), ofWords(513, 257, 257, 512, 513, 513)} {
		if !look(t, heap{0, 32, row(4, 8, 0, 20, 8, 30), [][]byte{b, b}}) {
			t.Errorf("%v is no data", b)
		}
	}
}

func TestAsManyDataAsBlocks(t *testing.T) {
	for _, h := range heaps(2, 50) {
		for _, data := range [][][]byte{nil, {nil}, append(slices.Clone(h.data), nil), append(slices.Clone(h.data), []byte{1}), h.data[:max(len(h.data), 1)-1], append(slices.Clone(h.data), h.data...)} {
			if len(data) != len(h.used) {
				refused(t, heap{h.from, h.to, h.used, data})
			}
		}
	}
}

func TestWrongBlocks(t *testing.T) {
	for _, used := range [][]api.Block{
		row(4, 8, 0, 8, 4, 1), row(4, 8, 0, 4, 8, 1), row(4, 16, 0, 8, 4, 1), row(12, 4, 0, 4, 8, 1), row(16, 4, 0, 4, 4, 1),
		row(8, 0, 0), row(8, -4, 0), row(8, 1, 0), row(8, 2, 0), row(8, 3, 0), row(8, 5, 0), row(8, 6, 0), row(9, 4, 0), row(10, 4, 0), row(11, 4, 0),
		row(0, 4, 0), row(-4, 12, 0), row(2, 4, 0), row(32, 4, 0), row(28, 8, 0), row(36, 4, 0), row(4, 32, 0), row(32, 0, 0),
		row(8, math.MaxInt-3, 0), row(8, math.MinInt, 0), row(math.MaxInt-3, 4, 0), row(math.MinInt, 4, 0), row(1<<62, 1<<62, 0), row(math.MaxInt-3, 8, 0),
	} {
		refused(t, heap{4, 32, used, none(len(used))})
		refused(t, heap{4, 32, append(used, api.Block{At: 24, Size: 4, Index: 8}), none(len(used) + 1)})
		refused(t, heap{4, 32, append(row(4, 4, 8), used...), none(len(used) + 1)})
	}
}

// edges are numbers at the ends of heaps, and at those of all numbers: some of their differences do not fit.
func edges() []int {
	return []int{math.MinInt, math.MinInt + 4, math.MinInt / 2, -allWords, -8, -4, -1, 0, 1, 2, 3, 4, 5, 8, 12, 32, 1024, allWords - 4, allWords - 1, allWords, allWords + 1, allWords + 4, 1 << 32, 1 << 61, 1 << 62, math.MaxInt - 7, math.MaxInt - 3, math.MaxInt}
}

func TestEndsOfHeaps(t *testing.T) {
	heads := make([]int, lists)
	for _, from := range edges() {
		for _, to := range edges() {
			is := look(t, bare(from, to))
			for _, used := range [][]api.Block{row(0, 4, 0), row(8, 8, 0), row(allWords-4, 4, 0), row(from, 4, 0)} {
				look(t, heap{from, to, used, none(1)})
			}
			if !is {
				notRead(t, from, to, nil, heads)
				notRead(t, from, to, ofWords(256, 0, 0, 256), []int{1, 0, 0, 0, 0, 0, 0})
			}
		}
	}
	for n := -8; n <= 40; n++ {
		for to := -8; to <= 40; to++ {
			look(t, bare(n, to))
		}
	}
}

func TestMoreBlocksThanAHeapHolds(t *testing.T) {
	refused(t, heap{0, allWords, slices.Repeat(row(0, 4, 0), 100000), none(100000)})
	l := make([]api.Block, 100000)
	for k := range l {
		l[k] = api.Block{At: 4 * k, Size: 4, Index: k}
	}
	refused(t, heap{0, allWords, l, none(len(l))})
	refused(t, heap{0, allWords, l[:512], none(512)})
}

// W5: no blocks, no data, no bytes, however they are handed in.
func TestOfNone(t *testing.T) {
	for _, used := range [][]api.Block{nil, {}, row(1, 2, 3)[:0]} {
		for _, data := range [][][]byte{nil, {}, none(2)[:0]} {
			look(t, heap{0, 0, used, data})
			look(t, heap{32, 64, used, data})
			look(t, heap{32, 31, used, data})
		}
	}
	for _, b := range [][]byte{nil, {}, fill(3)[:0]} {
		look(t, heap{0, 32, row(4, 4, 1), [][]byte{b}})
		if used, data, is := Read(64, 64, b, make([]int, lists)); len(used) != 0 || len(data) != 0 || !is {
			t.Errorf("Read of no words = %v, %v, %v", used, data, is)
		}
		notRead(t, 64, 68, b, make([]int, lists))
	}
}
