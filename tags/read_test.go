package tags

import (
	"bytes"
	"math"
	"slices"
	"testing"

	"joist/api"
)

// P11.3

func notRead(t *testing.T, from, to int, b []byte, heads []int) {
	t.Helper()
	if used, data, is := Read(from, to, b, heads); len(used) != 0 || len(data) != 0 || is {
		t.Fatalf("Read(%d, %d, %.400v, %v) = %v, %v, %v; want none, none, false", from, to, b, heads, used, data, is)
	}
}

// known is the tests' own reader: it goes from tag to tag and asks of each block, and of each word of a free one, what the chapter says. The heap's from and to are right.
func known(from, to int, b []byte, heads []int) (heap, bool) {
	h := heap{from: from, to: to}
	if len(b) != 8*(to-from) || len(heads) != lists {
		return h, false
	}
	var l []api.Span
	seen := map[int]int{}
	for at := from; at < to; {
		tag := word(b, at-from)
		size := tag >> 6
		if size < 4 || size > uint64(to-at) || size&3 != 0 || word(b, at-from+int(size)-1) != tag {
			return h, false
		}
		s := api.Block{At: at, Size: int(size), Index: int(tag&63) - 1}
		if seen[s.Index]++; s.Index > 31 || s.Index >= 0 && seen[s.Index] > 1 {
			return h, false
		}
		if s.Index >= 0 {
			h.used = append(h.used, s)
			h.data = append(h.data, b[8*(at-from)+8:8*(at-from)+8*s.Size-8])
		} else {
			if len(l) > 0 && l[len(l)-1].At+l[len(l)-1].Size == at {
				return h, false
			}
			l = append(l, api.Span{At: at, Size: s.Size})
		}
		at += s.Size
	}
	return h, linked(from, b, heads, l)
}

// linked tells whether heads and links lead through each list by rising At, and back, and whether nothing else stands in free blocks.
func linked(from int, b []byte, heads []int, l []api.Span) bool {
	for list := range lists {
		link, ahead := heads[list], 0
		for _, s := range l {
			if listOf(s.Size) != list {
				continue
			}
			if link != s.At+1 || word(b, s.At-from+2) != uint64(ahead) {
				return false
			}
			ahead, link = link, int(word(b, s.At-from+1))
		}
		if link != 0 {
			return false
		}
	}
	for _, s := range l {
		for w := 3; w < s.Size-1; w++ {
			if word(b, s.At-from+w) != 0 {
				return false
			}
		}
	}
	return true
}

// readLook holds Read against the tests' own reader; it tells whether they were a heap's.
func readLook(t *testing.T, from, to int, b []byte, heads []int) bool {
	t.Helper()
	h, want := known(from, to, b, heads)
	if !want {
		notRead(t, from, to, b, heads)
		return false
	}
	used, data, is := Read(from, to, b, heads)
	if !is || !slices.Equal(used, h.used) || !sameRows(data, h.data) {
		t.Fatalf("Read(%d, %d, %.400v, %v) = %v, %v, %v; want %v, %v", from, to, b, heads, used, data, is, h.used, h.data)
	}
	return true
}

func TestReadByHand(t *testing.T) {
	b := ofWords(256, 9, 0, 256, 257, 7, 0, 257, 256, 0, 1, 256)
	used, data, is := Read(0, 12, b, []int{1, 0, 0, 0, 0, 0, 0})
	if !is || !slices.Equal(used, row(4, 4, 0)) || !sameRows(data, [][]byte{ofWords(7, 0)}) {
		t.Errorf("Read of the chapter's first heap = %v, %v, %v", used, data, is)
	}
	b = ofWords(768, 0, 0, 0, 0, 0, 0, 0, 0, 0, 0, 768)
	if used, data, is := Read(0, 12, b, []int{0, 0, 1, 0, 0, 0, 0}); !is || len(used) != 0 || len(data) != 0 {
		t.Errorf("Read of the chapter's second heap = %v, %v, %v", used, data, is)
	}
	b = ofWords(544, math.MinInt, -1, 1<<62, 0, 1, 256, 544)
	used, data, is = Read(64, 72, b, make([]int, lists))
	if !is || !slices.Equal(used, row(64, 8, 31)) || !sameRows(data, [][]byte{b[8:56]}) {
		t.Errorf("Read of one block that fills all = %v, %v, %v", used, data, is)
	}
}

// TestWrongBytesByHand: each is one of the chapter's heaps, but for what is said of it.
func TestWrongBytesByHand(t *testing.T) {
	first := []int{1, 0, 0, 0, 0, 0, 0}
	second := []int{0, 1, 0, 0, 0, 0, 0}
	empty := make([]int, lists)
	for what, one := range map[string]struct {
		words, heads []int
	}{
		"a first tag, free":                  {[]int{512, 9, 0, 256, 257, 7, 0, 257, 256, 0, 1, 256}, first},
		"a first tag, used":                  {[]int{256, 9, 0, 256, 258, 7, 0, 257, 256, 0, 1, 256}, first},
		"a last tag, free":                   {[]int{256, 9, 0, 512, 257, 7, 0, 257, 256, 0, 1, 256}, first},
		"a last tag, used":                   {[]int{256, 9, 0, 256, 257, 7, 0, 258, 256, 0, 1, 256}, first},
		"the very last tag":                  {[]int{256, 9, 0, 256, 257, 7, 0, 257, 256, 0, 1, 0}, first},
		"a Size of 0":                        {[]int{0, 9, 0, 0, 257, 7, 0, 257, 256, 0, 1, 256}, first},
		"a Size of 0, used":                  {[]int{256, 9, 0, 256, 1, 7, 0, 1, 256, 0, 1, 256}, first},
		"a Size of 1":                        {[]int{256, 9, 0, 256, 65, 7, 0, 65, 256, 0, 1, 256}, first},
		"a Size of 2":                        {[]int{256, 9, 0, 256, 129, 129, 129, 129, 256, 0, 1, 256}, first},
		"a Size of 3":                        {[]int{256, 9, 0, 256, 193, 7, 193, 257, 256, 0, 1, 256}, first},
		"Sizes of 6, used":                   {[]int{385, 0, 0, 0, 0, 385, 386, 0, 0, 0, 0, 386}, empty},
		"Sizes of 6, one free":               {[]int{385, 0, 0, 0, 0, 385, 384, 0, 0, 0, 0, 384}, []int{0, 7, 0, 0, 0, 0, 0}},
		"Sizes of 5 and 7":                   {[]int{321, 0, 0, 0, 321, 448, 0, 0, 0, 0, 0, 448}, []int{0, 6, 0, 0, 0, 0, 0}},
		"a Size past the end":                {[]int{256, 9, 0, 256, 257, 7, 0, 257, 512, 0, 1, 512}, first},
		"a used Size past the end":           {[]int{512, 0, 0, 0, 0, 0, 0, 512, 513, 0, 0, 513}, second},
		"a Size far past the end":            {[]int{256, 9, 0, 256, 257, 7, 0, 257, api.MaxWord, 0, 1, api.MaxWord}, first},
		"a tag above MaxWord":                {[]int{256, 9, 0, 256, 1<<62 + 257, 7, 0, 1<<62 + 257, 256, 0, 1, 256}, first},
		"a tag below 0":                      {[]int{256, 9, 0, 256, math.MinInt + 257, 7, 0, math.MinInt + 257, 256, 0, 1, 256}, first},
		"no link ahead":                      {[]int{256, 0, 0, 256, 257, 7, 0, 257, 256, 0, 1, 256}, first},
		"a link ahead to no free block":      {[]int{256, 5, 0, 256, 257, 7, 0, 257, 256, 0, 1, 256}, first},
		"a link ahead behind the end":        {[]int{256, 9, 0, 256, 257, 7, 0, 257, 256, 13, 1, 256}, first},
		"a link ahead to itself":             {[]int{256, 1, 0, 256, 257, 7, 0, 257, 256, 0, 1, 256}, first},
		"links ahead in a ring":              {[]int{256, 9, 0, 256, 257, 7, 0, 257, 256, 1, 1, 256}, first},
		"a link that is no word":             {[]int{256, 9, 0, 256, 257, 7, 0, 257, 256, math.MinInt, 1, 256}, first},
		"no link behind":                     {[]int{256, 9, 0, 256, 257, 7, 0, 257, 256, 0, 0, 256}, first},
		"a link behind to itself":            {[]int{256, 9, 0, 256, 257, 7, 0, 257, 256, 0, 9, 256}, first},
		"a link behind of the first one":     {[]int{256, 9, 9, 256, 257, 7, 0, 257, 256, 0, 1, 256}, first},
		"links by falling At":                {[]int{256, 0, 9, 256, 257, 7, 0, 257, 256, 1, 0, 256}, []int{9, 0, 0, 0, 0, 0, 0}},
		"no links, and one left out":         {[]int{256, 0, 0, 256, 257, 7, 0, 257, 256, 0, 0, 256}, first},
		"a word within a free block":         {[]int{768, 0, 0, 0, 0, 0, 1, 0, 0, 0, 0, 768}, []int{0, 0, 1, 0, 0, 0, 0}},
		"a first word within a free block":   {[]int{768, 0, 0, 1, 0, 0, 0, 0, 0, 0, 0, 768}, []int{0, 0, 1, 0, 0, 0, 0}},
		"a last word within a free block":    {[]int{768, 0, 0, 0, 0, 0, 0, 0, 0, 0, 1, 768}, []int{0, 0, 1, 0, 0, 0, 0}},
		"an Index of 32":                     {[]int{256, 9, 0, 256, 289, 7, 0, 289, 256, 0, 1, 256}, first},
		"an Index of 62":                     {[]int{256, 9, 0, 256, 319, 7, 0, 319, 256, 0, 1, 256}, first},
		"an Index twice":                     {[]int{257, 0, 0, 257, 257, 7, 0, 257, 258, 0, 0, 258}, empty},
		"an Index twice, one between":        {[]int{257, 0, 0, 257, 258, 7, 0, 258, 257, 0, 0, 257}, empty},
		"two free blocks side by side":       {[]int{256, 0, 0, 256, 512, 0, 0, 0, 0, 0, 0, 512}, []int{1, 5, 0, 0, 0, 0, 0}},
		"two of one list side by side":       {[]int{256, 5, 0, 256, 256, 0, 1, 256, 257, 0, 0, 257}, first},
		"three side by side":                 {[]int{256, 5, 0, 256, 256, 9, 1, 256, 256, 0, 5, 256}, first},
		"a free block in another one's list": {[]int{768, 0, 0, 0, 0, 0, 0, 0, 0, 0, 0, 768}, []int{0, 0, 0, 1, 0, 0, 0}},
		"all 0":                              {make([]int, 12), empty},
		"all 0, with a head":                 {make([]int, 12), first},
	} {
		b := ofWords(one.words...)
		if _, is := known(0, 12, b, one.heads); is {
			t.Errorf("%s: the tests' own reader takes it", what)
		}
		if used, data, is := Read(0, 12, b, one.heads); len(used) != 0 || len(data) != 0 || is {
			t.Errorf("%s: %v, %v, %v", what, used, data, is)
		}
	}
}

// TestOtherHeapsByHand: beside the wrong ones these are right.
func TestOtherHeapsByHand(t *testing.T) {
	for _, one := range []struct{ words, heads []int }{
		{[]int{256, 0, 0, 256, 513, 0, 0, 0, 0, 0, 0, 513}, []int{1, 0, 0, 0, 0, 0, 0}},
		{[]int{257, 0, 0, 257, 258, 7, 0, 258, 259, 0, 0, 259}, make([]int, lists)},
		{[]int{288, -1, -1, 288, 512, 0, 0, 0, 0, 0, 0, 512}, []int{0, 5, 0, 0, 0, 0, 0}},
	} {
		if !readLook(t, 0, 12, ofWords(one.words...), one.heads) {
			t.Errorf("%v, %v are no heap's", one.words, one.heads)
		}
	}
}

// TestLengthsOfBytes: a byte, a word, a block too few or too many.
func TestLengthsOfBytes(t *testing.T) {
	for _, h := range heaps(3, 60) {
		b, heads := laid(h)
		for _, cut := range []int{1, 7, 8, 9, 32, len(b) / 2, len(b)} {
			if cut > 0 && cut <= len(b) {
				notRead(t, h.from, h.to, b[:len(b)-cut], heads)
				notRead(t, h.from, h.to, b[cut:], heads)
			}
		}
		for _, more := range []int{1, 7, 8, 32, 64} {
			notRead(t, h.from, h.to, append(slices.Clone(b), make([]byte, more)...), heads)
			notRead(t, h.from, h.to, append(make([]byte, more), b...), heads)
		}
		notRead(t, h.from, h.to, append(slices.Clone(b), ofWords(256, 0, 0, 256)...), heads)
		if len(b) > 0 {
			notRead(t, h.from, h.to, nil, heads)
		}
	}
}

func TestEndsThatAreNotTheBytes(t *testing.T) {
	for _, h := range heaps(4, 60) {
		b, heads := laid(h)
		for _, by := range []int{-allWords, -64, -32, -8, -4, -2, -1, 1, 2, 4, 8, 32, 64, allWords, math.MaxInt - allWords, math.MinInt} {
			notRead(t, h.from, h.to+by, b, heads)
			notRead(t, h.from+by, h.to, b, heads)
		}
		notRead(t, h.from-allWords-4, h.to-allWords-4, b, heads)
		notRead(t, h.from-h.to-4, -4, b, heads)
		notRead(t, allWords+4, allWords+4+h.to-h.from, b, heads)
		notRead(t, h.from+1, h.to+1, b, heads)
		notRead(t, h.from+2, h.to+2, b, heads)
		notRead(t, math.MinInt, math.MinInt+h.to-h.from, b, heads)
		notRead(t, math.MaxInt-h.to+h.from, math.MaxInt, b, heads)
		if h.from < h.to {
			notRead(t, h.to, h.from, b, heads)
		}
	}
}

// TestEndsWhoseLengthComesRound: 8 times their difference is the bytes' number, if it is cut to 64 bits.
func TestEndsWhoseLengthComesRound(t *testing.T) {
	b := ofWords(256, 0, 0, 256)
	for _, ends := range [][2]int{{0, 1<<61 + 4}, {0, 1<<62 + 4}, {math.MinInt, math.MinInt + 4}, {math.MinInt, 4}, {-1 << 61, 4}, {1 << 61, 4}, {4, -1 << 61}} {
		notRead(t, ends[0], ends[1], b, []int{1, 0, 0, 0, 0, 0, 0})
		notRead(t, ends[0], ends[1], b, []int{ends[0] + 1, 0, 0, 0, 0, 0, 0})
	}
}

// TestMovedHeaps: at another place, the bytes of a heap with a gap are those of no heap, as its heads and links tell places; without a gap they are another heap's.
func TestMovedHeaps(t *testing.T) {
	for _, h := range heaps(5, 60) {
		b, heads := laid(h)
		for _, by := range []int{-64, -4, 4, 32, 64} {
			if h.from+by >= 0 && h.to+by <= allWords {
				if is := readLook(t, h.from+by, h.to+by, b, heads); is != (len(free(h)) == 0) {
					t.Fatalf("%v, moved by %d, is read: %v", h.used, by, is)
				}
			}
		}
	}
}

func TestNumbersOfHeads(t *testing.T) {
	for _, h := range heaps(6, 60) {
		b, heads := laid(h)
		for n := range heads {
			notRead(t, h.from, h.to, b, heads[:n])
			notRead(t, h.from, h.to, b, heads[lists-n:])
		}
		notRead(t, h.from, h.to, b, append(slices.Clone(heads), 0))
		notRead(t, h.from, h.to, b, append([]int{0}, heads...))
		notRead(t, h.from, h.to, b, append(slices.Clone(heads), heads...))
	}
}

func TestTurnedHeads(t *testing.T) {
	for _, h := range heaps(7, 60) {
		b, heads := laid(h)
		for k, was := range heads {
			for _, n := range []int{math.MinInt, -1, 0, 1, was - 1, was + 1, was + 4, was + 64, -was, was + 1<<32, h.from + 1, h.to + 1, math.MaxInt} {
				if n != was {
					other := slices.Clone(heads)
					other[k] = n
					notRead(t, h.from, h.to, b, other)
				}
			}
			for i := range k {
				if heads[i] != was {
					other := slices.Clone(heads)
					other[k], other[i] = heads[i], was
					notRead(t, h.from, h.to, b, other)
				}
			}
		}
	}
}

// blockOf is the used block one of whose words w is, but for its tags.
func blockOf(h heap, w int) (int, bool) {
	for k, s := range h.used {
		if w > s.At && w < s.At+s.Size-1 {
			return k, true
		}
	}
	return 0, false
}

// TestEachByteTurned: a byte of data makes another heap, any other one makes none. (Of a tag, both of whose words would have to be turned, too.)
func TestEachByteTurned(t *testing.T) {
	for _, h := range heaps(8, 10) {
		if h.to-h.from > 900 {
			continue
		}
		b, heads := laid(h)
		for i := range b {
			for _, bit := range []byte{1, 0x10, 0x40, 0x80, 0xff} {
				b[i] ^= bit
				k, inData := blockOf(h, h.from+i/8)
				used, data, is := Read(h.from, h.to, b, heads)
				if is != inData {
					t.Fatalf("%v: byte %d turned by %d is read: %v", h, i, bit, is)
				}
				if inData {
					want := padded(h)
					want[k] = slices.Clone(want[k])
					want[k][i-8*(h.used[k].At-h.from)-8] ^= bit
					if !slices.Equal(used, h.used) || !sameRows(data, want) {
						t.Fatalf("%v: byte %d turned by %d = %v, %v", h, i, bit, used, data)
					}
				}
				b[i] ^= bit
			}
		}
	}
}

// numbers are what words are turned to: tags, links, and numbers that are no word's.
func numbers(h heap) []uint64 {
	l := []uint64{0, 1, 2, 63, 64, 65, 192, 255, 256, 257, 288, 289, 319, 320, 384, 512, 513, 544, 768, 131072, 131076, 131073, 1<<62 - 1, 1 << 62, 1<<62 + 256, 1 << 63, 1<<63 + 257, math.MaxUint64}
	for _, s := range free(h) {
		l = append(l, uint64(s.At+1), uint64(s.At), uint64(64*s.Size))
	}
	return append(l, uint64(h.from+1), uint64(h.to+1), uint64(64*(h.to-h.from)))
}

// TestEachWordTurned: alone, and with another one to the same number, as both tags of a block, or of one that was not there.
func TestEachWordTurned(t *testing.T) {
	for _, h := range []heap{bare(0, 20, 8, 4, 0), full(bare(32, 64, 36, 8, 3, 48, 4, 31)), bare(0, 12, 4, 4, 0), bare(0, 16), full(bare(8, 24, 8, 4, 0, 12, 12, 1))} {
		was, heads := laid(h)
		for w := range h.to - h.from {
			for _, n := range numbers(h) {
				b := slices.Clone(was)
				putWord(b, w, n)
				readLook(t, h.from, h.to, b, heads)
				for v := range w {
					two := slices.Clone(b)
					putWord(two, v, n)
					readLook(t, h.from, h.to, two, heads)
				}
			}
		}
	}
}

// TestBothTagsTurned: a used block with another Index is read, if it is one that no other has; a free one that becomes a used one leaves its list, which its links and heads then do not tell.
func TestBothTagsTurned(t *testing.T) {
	for _, h := range heaps(9, 40) {
		b, heads := laid(h)
		for k, s := range h.used {
			for index := -1; index < 63; index++ {
				other := h
				other.used = slices.Clone(h.used)
				other.used[k].Index = index
				putWord(b, s.At-h.from, uint64(64*s.Size+index+1))
				putWord(b, s.At-h.from+s.Size-1, uint64(64*s.Size+index+1))
				if is := readLook(t, h.from, h.to, b, heads); is != right(other) {
					t.Fatalf("%v with Index %d as block %d's is read: %v", h.used, index, k, is)
				}
			}
			putWord(b, s.At-h.from, uint64(64*s.Size+s.Index+1))
			putWord(b, s.At-h.from+s.Size-1, uint64(64*s.Size+s.Index+1))
		}
		for _, s := range free(h) {
			for index := range 63 {
				putWord(b, s.At-h.from, uint64(64*s.Size+index+1))
				putWord(b, s.At-h.from+s.Size-1, uint64(64*s.Size+index+1))
				notRead(t, h.from, h.to, b, heads)
			}
			putWord(b, s.At-h.from, uint64(64*s.Size))
			putWord(b, s.At-h.from+s.Size-1, uint64(64*s.Size))
		}
	}
}

// TestSplitGaps: each free block as two, both in their lists as if they might be side by side.
func TestSplitGaps(t *testing.T) {
	for size := 8; size <= 300; size += unit {
		for first := unit; first < size; first += unit {
			b := make([]byte, 8*size)
			heads := make([]int, lists)
			heads[listOf(size-first)] = first + 1
			if listOf(first) == listOf(size-first) {
				putWord(b, 1, uint64(first+1))
				putWord(b, first+2, 1)
			}
			heads[listOf(first)] = 1
			for _, w := range []int{0, first - 1} {
				putWord(b, w, uint64(64*first))
			}
			for _, w := range []int{first, size - 1} {
				putWord(b, w, uint64(64*(size-first)))
			}
			notRead(t, 0, size, b, heads)
		}
	}
}

// TestFallingLists: all lists the other way round, which lead through all their blocks, too.
func TestFallingLists(t *testing.T) {
	turned := 0
	for _, h := range heaps(10, 60) {
		b, heads := laid(h)
		l := free(h)
		for k, s := range l {
			next, ahead := word(b, s.At-h.from+1), word(b, s.At-h.from+2)
			putWord(b, s.At-h.from+1, ahead)
			putWord(b, s.At-h.from+2, next)
			heads[listOf(s.Size)] = l[k].At + 1
		}
		var in [lists]int
		for _, s := range l {
			in[listOf(s.Size)]++
		}
		if slices.Max(in[:]) > 1 {
			turned++
			notRead(t, h.from, h.to, b, heads)
		}
	}
	if turned == 0 {
		t.Error("no list was turned")
	}
}

// TestMixedBytes: bytes that are made of words of heaps, without an order, end all the same.
func TestMixedBytes(t *testing.T) {
	roll := dice(11)
	read := 0
	for range 20000 {
		size := unit * (1 + roll(5))
		from := unit * roll(3)
		h := bare(from, from+size)
		some := numbers(h)
		b, heads := laid(h)
		if roll(2) == 0 {
			heads = make([]int, lists)
			h = full(bare(from, from+size, from, size, roll(32)))
			b, _ = laid(h)
		}
		for range roll(4) {
			n := some[roll(len(some))]
			w := roll(size)
			putWord(b, w, n)
			if other := w + int(n>>6) - 1; n < 1<<16 && other >= 0 && other < size {
				putWord(b, other, n)
			}
		}
		if roll(4) == 0 {
			heads[roll(lists)] = roll(from + size + 2)
		}
		if readLook(t, from, from+size, b, heads) {
			read++
		}
	}
	if read == 0 {
		t.Error("none was read")
	}
}

// W2: the same each time, whatever was asked between.
func TestSameEachTime(t *testing.T) {
	for range 3 {
		for _, h := range heaps(12, 30) {
			look(t, h)
			refused(t, heap{h.from, h.to + 1, h.used, h.data})
			b, heads := laid(h)
			if !readLook(t, h.from, h.to, b, heads) {
				t.Fatalf("%v is not read", h)
			}
			notRead(t, h.from, h.to, append(bytes.Clone(b), 0), heads)
		}
	}
}
