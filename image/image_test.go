package image

import (
	"bytes"
	"encoding/binary"
	"hash/crc32"
	"maps"
	"math"
	"slices"
	"testing"

	"joist/api"
	"joist/state"
)

// The limits, written out: the tests must not lean on what they hold the package against.
const (
	lineBytes = 64
	pageWords = 32
	mostPages = 64
	lastLen   = 2048
	lastSmall = 120
	lastGen   = 65535
	magic     = 0x315453494f4a
	treeWords = 13 * 16
	modeOne   = 1
	modeTwo   = 2
	modeUp    = 3
	modeDown  = 4
	pageFree  = -1
	pageFirst = 6
	pageMore  = 7
)

// begins are the words of a slab where the cells of each class begin, written out; cellBytes are how many bytes these hold.
var (
	begins = [6][]int{
		{4, 6, 8, 10, 12, 14, 16, 18, 20, 22, 24, 26, 28, 30},
		{4, 7, 10, 13, 16, 19, 22, 25, 28},
		{4, 9, 14, 19, 24},
		{4, 11, 18, 25},
		{4, 14},
		{4},
	}
	cellBytes = [6]int{16, 24, 40, 56, 80, 120}
)

func modes() []int { return []int{modeOne, modeTwo, modeUp, modeDown} }

// small is the chapter's example; wide has all slots, roots and pages.
func small() api.Shape { return api.Shape{Pages: 4, Slots: 4, Roots: 2, Room: 30} }

func wide() api.Shape { return api.Shape{Pages: 64, Slots: 32, Roots: 8, Room: 3} }

// shapes are right ones: the least, the greatest by each number and by all lines, and some between.
func shapes() []api.Shape {
	return []api.Shape{
		small(),
		wide(),
		{Pages: 1, Slots: 2, Roots: 2, Room: 1},
		{Pages: 1, Slots: 4, Roots: 2, Room: 2030},
		{Pages: 64, Slots: 32, Roots: 8, Room: 1895},
		{Pages: 64, Slots: 32, Roots: 6, Room: 1896},
		{Pages: 2, Slots: 32, Roots: 4, Room: 60},
		{Pages: 33, Slots: 18, Roots: 6, Room: 7},
	}
}

// far are numbers past all that may be, or nearly all. Those past 2^32 have one that may be in their lower half.
func far() []int {
	return []int{
		math.MinInt, math.MinInt + 1, math.MinInt + 4, math.MinInt / 2, -1 << 32, -1<<32 + 4, -2048, -32, -4, -1,
		65, 2049, 2052, 4097, 65536, 65540, 1 << 31, 1 << 32, 1<<32 + 2, 1<<32 + 4, 1 << 61, 1<<61 + 4, 1<<62 - 1, 1 << 62, 1<<62 + 4, math.MaxInt - 3, math.MaxInt,
	}
}

// dice are numbers without an order that anybody sees, but the same each time.
func dice(seed uint32) func(n int) int {
	return func(n int) int {
		seed = seed*1664525 + 1013904223
		return int(seed>>8) % n
	}
}

// bare is a state with nothing in it, made by hand, of any mode and base.
func bare(s api.Shape, mode, base int) api.State {
	return api.State{Shape: s, Mode: mode, Base: base, Slots: make([]api.Slot, s.Slots), Roots: make([]api.Root, s.Roots), Data: make([][]byte, s.Slots)}
}

// own is a state in memory of its own, made by hand.
func own(s api.State) api.State {
	s.Slots = slices.Clone(s.Slots)
	s.Roots = slices.Clone(s.Roots)
	s.Data = slices.Clone(s.Data)
	for k := range s.Data {
		s.Data[k] = slices.Clone(s.Data[k])
	}
	return s
}

// filling are n bytes that go with a slot, none of them 0 up to the 255th.
func filling(k, n int) []byte {
	b := make([]byte, max(n, 0))
	for i := range b {
		b[i] = byte((7*k+i)%255 + 1)
	}
	return b
}

// with is s with an object in slot k, and its bytes; the slot's generation stays.
func with(s api.State, k int, two bool, at, n int) api.State {
	s = own(s)
	s.Slots[k] = api.Slot{Gen: s.Slots[k].Gen, Live: true, Two: two, At: at, Len: n}
	s.Data[k] = filling(k, n)
	return s
}

// laid is s with objects of a format, three numbers each: slot, At, Len.
func laid(s api.State, two bool, numbers ...int) api.State {
	for i := 0; i+2 < len(numbers); i += 3 {
		s = with(s, numbers[i], two, numbers[i+1], numbers[i+2])
	}
	return s
}

// spent is s with all slots that are not live spent.
func spent(s api.State) api.State {
	s = own(s)
	for k := range s.Slots {
		if !s.Slots[k].Live {
			s.Slots[k].Gen = lastGen
		}
	}
	return s
}

// full has something in each of its parts: of format 1 a block ahead of, between and behind gaps; of format 2 two slabs of one class, a large object, a free page.
func full() api.State {
	s := bare(api.Shape{Pages: 8, Slots: 8, Roots: 4, Room: 2}, modeUp, 5)
	s = laid(s, false, 1, 168, 5, 4, 192, 100)
	s = laid(s, true, 2, 4, 20, 5, 135, 17, 6, 32, 300, 7, 7, 24)
	s.Slots[0].Gen, s.Slots[1].Gen, s.Slots[3].Gen, s.Slots[7].Gen = 7, 300, 65534, lastGen
	s.Roots[1] = api.Root{Name: "a-é", To: api.Handle{Index: 1, Gen: 300}}
	s.Roots[2] = api.Root{Name: "sixteen.bytes.é", To: api.Handle{Index: 31, Gen: lastGen}}
	return s
}

// paper is what bytes are written on, word by word.
type paper struct{ b []byte }

func (p *paper) words(l ...int) {
	for _, n := range l {
		p.b = binary.LittleEndian.AppendUint64(p.b, uint64(n))
	}
}

func (p *paper) zeros(n int) { p.b = append(p.b, make([]byte, n)...) }

// byHand are the bytes of a right state, reckoned once more.
func byHand(s api.State) []byte {
	var p paper
	p.words(magic, s.Mode, s.Shape.Pages, s.Shape.Slots, s.Shape.Roots, s.Shape.Room, s.Base)
	p.words(int(crc32.ChecksumIEEE(p.b)))
	p.zeros(lineBytes + 2*lineBytes*s.Shape.Room)
	heap, heads := heapByHand(s)
	open := openByHand(s.Slots)
	p.words(slices.Concat(open[:1], heads)...)
	for k, slot := range s.Slots {
		n := 4 * slot.Gen
		if slot.Live {
			n += 2
		}
		if slot.Two {
			n++
		}
		p.words(n, slot.At, slot.Len)
		link := 0
		if !slot.Live && slot.Gen < lastGen {
			link = openByHand(s.Slots[k+1:])[0]
			if link != 0 {
				link += k + 1
			}
		}
		p.words(link)
	}
	for _, r := range s.Roots {
		p.b = append(p.b, r.Name...)
		p.zeros(16 - len(r.Name))
		n := 0
		if r.Name != "" {
			n = r.To.Index*65536 + r.To.Gen + 1
		}
		p.words(n, 0)
	}
	l := treeByHand(s)
	p.words(l...)
	p.words(make([]int, treeWords-len(l))...)
	p.b = append(p.b, heap...)
	return p.b
}

// openByHand are 1 more than the indices of open slots, and 0 behind them.
func openByHand(l []api.Slot) []int {
	var open []int
	for k, slot := range l {
		if !slot.Live && slot.Gen < lastGen {
			open = append(open, k+1)
		}
	}
	return append(open, 0)
}

// heapByHand are the bytes of all pages, and the seven heads.
func heapByHand(s api.State) ([]byte, []int) {
	b := make([]byte, 8*pageWords*s.Shape.Pages)
	put := func(at, n int) { binary.LittleEndian.PutUint64(b[8*at:], uint64(n)) }
	owners := make(map[int]int) // by the first word of a block
	for k, slot := range s.Slots {
		if slot.Live && !slot.Two {
			owners[slot.At] = k
			copy(b[8*slot.At+8:], s.Data[k])
		}
		if slot.Live && slot.Two {
			copy(b[8*slot.At:], s.Data[k])
		}
	}
	slabsByHand(s, put)
	heads := make([]int, 7)
	var last [7]int
	at, end := pageWords*s.Base, pageWords*s.Shape.Pages
	for at < end {
		k, used := owners[at]
		size, tag := 0, 0
		if used {
			size = (2 + (s.Slots[k].Len+7)/8 + 3) / 4 * 4
			tag = 64*size + k + 1
		} else {
			for size = 4; at+size < end; size += 4 {
				if _, next := owners[at+size]; next {
					break
				}
			}
			tag = 64 * size
		}
		put(at, tag)
		put(at+size-1, tag)
		if !used {
			list := 0
			for most := 4; list < 6 && size > most; most *= 2 {
				list++
			}
			put(at+2, last[list])
			if last[list] == 0 {
				heads[list] = at + 1
			} else {
				put(last[list], at+1) // its second word: a place of one more than where it begins
			}
			last[list] = at + 1
		}
		at += size
	}
	return b, heads
}

// slabsByHand puts the heads of the slabs.
func slabsByHand(s api.State, put func(at, n int)) {
	kinds := kindsByHand(s)
	for page, kind := range kinds {
		if kind < 0 || kind > 5 {
			continue
		}
		bits, next, prev := 0, 0, 0
		for cell, word := range begins[kind] {
			for _, slot := range s.Slots {
				if slot.Live && slot.Two && slot.At == page*pageWords+word {
					bits |= 1 << cell
				}
			}
		}
		for other, k := range kinds {
			if k == kind && other < page {
				prev = other + 1
			}
			if k == kind && other > page && next == 0 {
				next = other + 1
			}
		}
		put(page*pageWords, kind+1)
		put(page*pageWords+1, bits)
		put(page*pageWords+2, next)
		put(page*pageWords+3, prev)
	}
}

func kindsByHand(s api.State) []int {
	kinds := slices.Repeat([]int{pageFree}, s.Base)
	for _, slot := range s.Slots {
		if !slot.Live || !slot.Two {
			continue
		}
		page := slot.At / pageWords
		if slot.Len <= lastSmall {
			kinds[page] = slices.IndexFunc(cellBytes[:], func(n int) bool { return slot.Len <= n })
			continue
		}
		kinds[page] = pageFirst
		for k := 1; 256*k < slot.Len; k++ {
			kinds[page+k] = pageMore
		}
	}
	return kinds
}

// treeByHand are the words of the tree's nodes: levels from below, then written from above.
func treeByHand(s api.State) []int {
	type pair struct{ first, second int }
	var level []pair
	kinds := kindsByHand(s)
	for page := 0; page < len(kinds); {
		size, use := 1, 1
		if kinds[page] == pageFree || kinds[page] == pageFirst {
			more := pageMore
			if use = 2; kinds[page] == pageFree {
				more, use = pageFree, 0
			}
			for page+size < len(kinds) && kinds[page+size] == more {
				size++
			}
		}
		level = append(level, pair{page, 4*size + use})
		page += size
	}
	count := []int{}
	for n := max(1, (len(level)+6)/7); ; n = (n + 6) / 7 {
		count = append(count, n)
		if n == 1 {
			break
		}
	}
	number := 0
	for _, n := range count {
		number += n
	}
	out := make([]int, 16*number)
	for depth, n := range count {
		number -= n
		var above []pair
		for k := range n {
			mine := level[min(7*k, len(level)):min(7*k+7, len(level))]
			node := out[16*(number+k):]
			node[0] = 2 * len(mine)
			if depth == 0 {
				node[0]++
			}
			for i, p := range mine {
				node[1+2*i], node[2+2*i] = p.first, p.second
			}
			if len(mine) > 0 {
				above = append(above, pair{mine[0].first, number + k})
			}
		}
		level = above
	}
	return out
}

// cut is what a test's message shows of a state.
func cut(s api.State) api.State {
	s.Data = nil
	return s
}

// encodes holds Encode of a right state against the tests' own reckoning.
func encodes(t *testing.T, what string, s api.State) []byte {
	t.Helper()
	b, e := Encode(s)
	if e != api.OK {
		t.Fatalf("%s: Encode(%+v) tells %d", what, cut(s), e)
	}
	want := byHand(s)
	if !bytes.Equal(b, want) {
		for i := range min(len(b), len(want)) {
			if b[i] != want[i] {
				t.Fatalf("%s: Encode(%+v): byte %d of line %d is %d, not %d", what, cut(s), i%lineBytes, i/lineBytes, b[i], want[i])
			}
		}
		t.Fatalf("%s: Encode(%+v) has %d bytes, not %d", what, cut(s), len(b), len(want))
	}
	return b
}

// refused holds Encode of a state that is not right against what it must tell.
func refused(t *testing.T, what string, s api.State) {
	t.Helper()
	if b, e := Encode(s); len(b) != 0 || e != api.ErrArg {
		t.Fatalf("%s: Encode(%+v) has %d bytes and tells %d; want none, ErrArg", what, cut(s), len(b), e)
	}
}

// P19.1: Encode

// wordsAre holds words of b against those written out, from a line's first one on.
func wordsAre(t *testing.T, what string, b []byte, line int, want ...int) {
	t.Helper()
	for i, n := range want {
		if got := binary.LittleEndian.Uint64(b[lineBytes*line+8*i:]); got != uint64(n) {
			t.Errorf("%s: word %d from line %d on is %d, not %d", what, i, line, got, n)
		}
	}
}

func TestExample(t *testing.T) {
	s, _ := state.New(small(), api.ModeOne)
	b, e := Encode(s)
	if e != api.OK || len(b) != 108*lineBytes {
		t.Fatalf("Encode of New has %d bytes and tells %d", len(b), e)
	}
	wordsAre(t, "heads", b, 62, 1, 0, 0, 0, 0, 0, 1, 0)
	wordsAre(t, "the heap's first word", b, 92, 8192)
	wordsAre(t, "the heap's last words", b, 107, 0, 0, 0, 0, 0, 0, 0, 8192)
	encodes(t, "New", s)
}

// TestEachPartByHand: a state with something in each part, its words written out.
func TestEachPartByHand(t *testing.T) {
	b := encodes(t, "full", full())
	if len(b) != 71*lineBytes {
		t.Fatalf("%d bytes", len(b))
	}
	text := func(s string) int {
		n := 0
		for i := range len(s) {
			n |= int(s[i]) << (8 * i)
		}
		return n
	}
	// The lines: head 0, mark 1, records 2 to 5, heads 6, table 7, roots 11, tree 13, heap 39.
	wordsAre(t, "head", b, 0, magic, modeUp, 8, 8, 4, 2, 5)
	wordsAre(t, "mark and records", b, 1, make([]int, 5*8)...)
	wordsAre(t, "heads", b, 6, 1, 0, 161, 0, 173, 209, 0, 0)
	wordsAre(t, "table", b, 7,
		28, 0, 0, 4, 1202, 168, 5, 0,
		3, 4, 20, 0, 4*65534, 0, 0, 0,
		2, 192, 100, 0, 3, 135, 17, 0,
		3, 32, 300, 0, 4*lastGen+3, 7, 24, 0)
	wordsAre(t, "roots", b, 11,
		0, 0, 0, 0, text("a-é"), 0, 65536+300+1, 0,
		text("sixteen."), text("bytes.é"), 31*65536+lastGen+1, 0, 0, 0, 0, 0)
	wordsAre(t, "tree", b, 13, 4*2+1, 0, 4*1+1, 1, 4*2+2, 3, 4*1+0, 4, 4*1+1, 0, 0, 0, 0, 0, 0, 0)
	wordsAre(t, "the tree's room", b, 15, make([]int, 12*16)...)
	row := func(k, from, n int) int { return text(string(filling(k, lastLen)[from : from+n])) }
	wordsAre(t, "page 0", b, 39, 2, 3, 5, 0, row(2, 0, 8), row(2, 8, 8), row(2, 16, 4), row(7, 0, 8), row(7, 8, 8), row(7, 16, 8), 0, 0)
	wordsAre(t, "page 1", b, 43, row(6, 0, 8))
	wordsAre(t, "page 2", b, 47, row(6, 256, 8), row(6, 264, 8), row(6, 272, 8), row(6, 280, 8), row(6, 288, 8), row(6, 296, 4), 0, 0)
	wordsAre(t, "page 2's end, page 3", b, 48, make([]int, 7*8)...)
	wordsAre(t, "page 4", b, 55, 2, 2, 0, 1, 0, 0, 0, row(5, 0, 8), row(5, 8, 8), row(5, 16, 1), 0)
	wordsAre(t, "format 1", b, 59,
		512, 0, 0, 0, 0, 0, 0, 512, 64*4+2, row(1, 0, 5), 0, 64*4+2, 64*20, 0, 0)
	wordsAre(t, "a block", b, 63, 64*16+5, row(4, 0, 8))
	wordsAre(t, "the block's end", b, 64, row(4, 56, 8), row(4, 64, 8), row(4, 72, 8), row(4, 80, 8), row(4, 88, 8), row(4, 96, 4), 0, 64*16+5)
	wordsAre(t, "the last gap", b, 65, 64*48, 0, 0)
	wordsAre(t, "the last line", b, 70, 0, 0, 0, 0, 0, 0, 0, 64*48)
}

// TestBareStates: each mode with each base that goes with it, in heaps without objects, with all slots open and all spent.
func TestBareStates(t *testing.T) {
	for _, shape := range shapes() {
		for _, mode := range modes() {
			for _, base := range []int{0, 1, shape.Pages / 2, shape.Pages - 1, shape.Pages} {
				s := bare(shape, mode, base)
				if !state.Right(s) {
					refused(t, "bare", s)
					continue
				}
				encodes(t, "bare", s)
				encodes(t, "all slots spent", spent(s))
			}
		}
	}
}

// TestWhatNewMakes has the first lines that the chapter tells of: open slots from the first one on, one gap, one free row of pages.
func TestWhatNewMakes(t *testing.T) {
	for _, shape := range shapes() {
		one, _ := state.New(shape, api.ModeOne)
		two, _ := state.New(shape, api.ModeTwo)
		a, b := encodes(t, "ModeOne", one), encodes(t, "ModeTwo", two)
		heads := 2 + 2*shape.Room
		tree := heads + 1 + shape.Slots/2 + shape.Roots/2
		wordsAre(t, "ModeOne", a, heads, 1)
		wordsAre(t, "ModeOne", a, tree, 1, 0, 0)
		wordsAre(t, "ModeOne", a, tree+26, 64*32*shape.Pages, 0, 0)
		wordsAre(t, "ModeTwo", b, heads, 1, 0, 0, 0, 0, 0, 0, 0)
		wordsAre(t, "ModeTwo", b, tree, 3, 0, 4*shape.Pages, 0)
		if !slices.Equal(b[lineBytes*(tree+26):], make([]byte, 256*shape.Pages)) {
			t.Errorf("%+v: a free page is not of bytes 0", shape)
		}
	}
}

// named are right states at the edges, by what is at one there.
func named() map[string]api.State {
	l := inBoth()
	maps.Copy(l, inOne())
	maps.Copy(l, inTwo())
	return l
}

// inOne are those of objects of format 1 alone.
func inOne() map[string]api.State {
	one := bare(wide(), modeOne, 0)
	many := one
	for k := range 32 {
		many = laid(many, false, k, 2044-4*k, 16)
	}
	return map[string]api.State{
		"all slots, format 1":           many,
		"to the last word":              laid(bare(small(), modeOne, 0), false, 0, 124, 16),
		"all of the heap":               laid(bare(small(), modeOne, 0), false, 3, 0, 1008),
		"all of it by many":             laid(bare(small(), modeOne, 0), false, 0, 0, 1, 1, 4, 16, 2, 8, 17, 3, 16, 880),
		"one behind the other":          laid(bare(small(), modeOne, 0), false, 0, 8, 1, 1, 12, 16, 2, 16, 17, 3, 24, 33),
		"against the slots' order":      laid(bare(small(), modeOne, 0), false, 3, 0, 1, 2, 20, 17, 1, 60, 2, 0, 120, 48),
		"one behind another against it": laid(bare(small(), modeOne, 0), false, 3, 0, 1, 2, 4, 17, 1, 12, 2, 0, 16, 48),
		"gaps of each list":             laid(one, false, 9, 4, 1, 3, 16, 1, 5, 36, 1, 7, 72, 1, 1, 140, 1, 2, 272, 1, 0, 408, 1),
		"two gaps of each list":         laid(one, false, 9, 4, 1, 3, 16, 1, 5, 36, 1, 7, 72, 1, 1, 140, 1, 2, 272, 1, 0, 408, 1, 11, 416, 1, 13, 428, 1, 15, 444, 1, 17, 476, 1, 19, 540, 1, 21, 640, 1),
		"format 1, Len 1 and MaxLen":    laid(one, false, 0, 2048-260, lastLen, 31, 0, 1),
		"format 1 behind Base":          laid(bare(small(), modeDown, 3), false, 0, 96, 240),
		"gap at Base":                   laid(bare(small(), modeDown, 3), false, 0, 100, 208),
	}
}

// inTwo are those of objects of format 2 alone.
func inTwo() map[string]api.State {
	two := bare(wide(), modeTwo, 64)
	many, cells := two, two
	for k := range 32 {
		many = laid(many, true, k, 64*(31-k)+32*(k%2), 256)
		cells = laid(cells, true, k, 32*(63-2*k)+begins[k%6][k%len(begins[k%6])], cellBytes[k%6])
	}
	return map[string]api.State{
		"all slots, format 2":       many,
		"slabs in each second page": cells,
		"one slab":                  laid(bare(small(), modeTwo, 4), true, 0, 36, 16, 1, 38, 1),
		"the first cell":            laid(bare(small(), modeTwo, 4), true, 0, 4, 1),
		"the last cell":             laid(bare(small(), modeTwo, 4), true, 3, 96+30, 16),
		"cells against the slots":   laid(bare(small(), modeTwo, 4), true, 3, 4, 1, 2, 6, 2, 1, 8, 3, 0, 30, 4),
		"two slabs of a class":      laid(bare(small(), modeTwo, 4), true, 0, 68, 120, 3, 4, 81),
		"two side by side":          laid(bare(small(), modeTwo, 4), true, 0, 39, 24, 3, 71, 20, 2, 68, 17),
		"three slabs of a class":    laid(two, true, 0, 32*63+4, 16, 1, 32*7+8, 1, 2, 30, 9, 3, 32*63+30, 3),
		"slabs of two classes":      laid(bare(small(), modeTwo, 4), true, 0, 4, 16, 1, 36, 24, 2, 68, 16, 3, 100, 17),
		"each class":                laid(two, true, 0, 4, 1, 1, 36, 17, 2, 68, 25, 3, 100, 41, 4, 132, 57, 5, 164, 81),
		"each class's last cell":    laid(two, true, 0, 30, 16, 1, 32+28, 24, 2, 64+24, 40, 3, 96+25, 56, 4, 128+14, 80, 5, 160+4, 120),
		"a whole page":              laid(bare(small(), modeTwo, 4), true, 0, 32, 256),
		"the least large one":       laid(bare(small(), modeTwo, 4), true, 0, 96, 121),
		"two whole pages":           laid(bare(small(), modeTwo, 4), true, 0, 32, 512),
		"a last page with a byte":   laid(bare(small(), modeTwo, 4), true, 0, 0, 769),
		"large ones side by side":   laid(bare(small(), modeTwo, 4), true, 0, 64, 300, 1, 0, 257),
		"all pages":                 laid(bare(small(), modeTwo, 4), true, 2, 0, 1024),
		"format 2, Len 1, MaxLen":   laid(two, true, 0, 2048-256, lastLen, 31, 4, 1),
		"a free page between":       laid(bare(small(), modeTwo, 4), true, 0, 4, 1, 1, 64, 400),
		"free pages between":        laid(two, true, 0, 4, 1, 1, 32*9, 400, 2, 32*20+4, 1, 3, 32*40, lastLen, 4, 32*63, 130),
		"a class on both sides":     laid(two, true, 0, 4, 1, 1, 32, 400, 2, 96+4, 1, 3, 128+4, 100, 4, 32*9+6, 10),
	}
}

// inBoth are those of both formats, and of what has no format.
func inBoth() map[string]api.State {
	l := map[string]api.State{
		"full":                     full(),
		"one slot":                 laid(bare(small(), modeOne, 0), false, 2, 8, 3),
		"one spent":                spent(laid(bare(small(), modeOne, 0), false, 2, 8, 3)),
		"both formats":             laid(laid(bare(small(), modeUp, 2), true, 0, 4, 1, 1, 32, 256), false, 2, 64, 16, 3, 124, 1),
		"both, against the slots":  laid(laid(bare(small(), modeDown, 2), true, 3, 4, 1, 1, 32, 256), false, 2, 100, 16, 0, 72, 17),
		"all of both":              laid(laid(bare(small(), modeDown, 2), true, 3, 0, 512), false, 0, 64, 496),
		"Base 0 on the way":        laid(bare(small(), modeUp, 0), false, 0, 0, 1),
		"Base Pages on the way":    laid(bare(small(), modeDown, 4), true, 0, 100, 1),
		"the least shape":          laid(bare(api.Shape{Pages: 1, Slots: 2, Roots: 2, Room: 1}, modeOne, 0), false, 0, 0, 112, 1, 16, 112),
		"the least shape's cells":  laid(bare(api.Shape{Pages: 1, Slots: 2, Roots: 2, Room: 1}, modeTwo, 1), true, 0, 14, 80, 1, 4, 57),
		"bytes 0":                  zeroed(full()),
		"bytes 255":                turned(full(), func(s *api.State) { s.Data[6] = bytes.Repeat([]byte{255}, 300) }),
		"no root":                  turned(full(), func(s *api.State) { clear(s.Roots) }),
		"a root of a zero handle":  turned(full(), func(s *api.State) { s.Roots[0] = api.Root{Name: "z"} }),
		"roots of the same handle": turned(full(), func(s *api.State) { s.Roots[0] = api.Root{Name: "z", To: s.Roots[1].To} }),
	}
	l["most roots"] = turned(bare(wide(), modeOne, 0), func(s *api.State) {
		for k := range s.Roots {
			s.Roots[k] = api.Root{Name: "sixteen.bytes.a" + string(rune('a'+k)), To: api.Handle{Index: 31 - k, Gen: lastGen - k}}
		}
	})
	return l
}

// turned is s, in which something is turned.
func turned(s api.State, turn func(*api.State)) api.State {
	s = own(s)
	turn(&s)
	return s
}

func zeroed(s api.State) api.State {
	return turned(s, func(s *api.State) {
		for _, row := range s.Data {
			clear(row)
		}
	})
}

func TestNamedStates(t *testing.T) {
	for what, s := range named() {
		if !state.Right(s) {
			t.Fatalf("%s: %+v is not right", what, cut(s))
		}
		encodes(t, what, s)
	}
}

// rolled are right states of all shapes and modes, with as many objects as came to lie right by chance; some slots are spent, some roots have names.
func rolled(seed uint32, times int, shapes ...api.Shape) []api.State {
	roll := dice(seed)
	var out []api.State
	for range times {
		for _, shape := range shapes {
			for _, mode := range modes() {
				base := [5]int{modeTwo: shape.Pages, modeUp: roll(shape.Pages + 1), modeDown: roll(shape.Pages + 1)}[mode]
				out = append(out, rolledState(roll, bare(shape, mode, base)))
			}
		}
	}
	return out
}

func rolledState(roll func(int) int, s api.State) api.State {
	for k := range s.Slots {
		s.Slots[k].Gen = roll(3) * roll(200)
		if roll(5) == 0 {
			s.Slots[k].Gen = lastGen
		}
		for range roll(8) {
			if more := with(s, k, roll(s.Shape.Pages) < s.Base, rolledWord(roll, s.Shape.Pages), rolledLen(roll)); state.Right(more) {
				s = more
				break
			}
		}
	}
	for k := range s.Roots {
		if roll(2) == 0 {
			s.Roots[k] = api.Root{Name: string(rune('a'+k)) + "-é"[:1+2*roll(2)], To: api.Handle{Index: roll(32), Gen: roll(65536)}}
		}
	}
	return s
}

func rolledWord(roll func(int) int, pages int) int {
	page := roll(pages) * pageWords
	if roll(2) == 0 {
		class := begins[roll(6)]
		return page + class[roll(len(class))]
	}
	return page + 4*roll(8)
}

func rolledLen(roll func(int) int) int {
	if roll(3) > 0 {
		return 1 + roll(lastSmall)
	}
	return 1 + roll(1+roll(lastLen))
}

func TestRolledStates(t *testing.T) {
	live := [5]int{}
	for _, s := range rolled(1, 12, shapes()...) {
		encodes(t, "rolled", s)
		live[s.Mode] += state.Live(s)
	}
	for _, mode := range modes() {
		if live[mode] < 100 {
			t.Errorf("mode %d: %d objects in all", mode, live[mode])
		}
	}
}

// wrongStates are not right, each by one part.
func wrongStates() map[string]api.State {
	l := map[string]api.State{
		"zero":          {},
		"zero of modes": {Mode: modeUp},
		"only a shape":  {Shape: small(), Mode: modeOne},
	}
	turn := func(what string, do func(*api.State)) { l[what] = turned(full(), do) }
	turn("Base", func(s *api.State) { s.Base = 4 })
	turn("Base past the pages", func(s *api.State) { s.Base = 9 })
	turn("mode 0", func(s *api.State) { s.Mode = 0 })
	turn("mode 5", func(s *api.State) { s.Mode = 5 })
	turn("ModeOne", func(s *api.State) { s.Mode = modeOne })
	turn("ModeTwo", func(s *api.State) { s.Mode = modeTwo })
	turn("Pages", func(s *api.State) { s.Shape.Pages = 6 })
	turn("no Pages", func(s *api.State) { s.Shape.Pages = 0 })
	turn("too many Pages", func(s *api.State) { s.Shape.Pages = 65 })
	turn("Slots", func(s *api.State) { s.Shape.Slots = 10 })
	turn("odd Slots", func(s *api.State) { s.Shape.Slots = 7 })
	turn("Roots", func(s *api.State) { s.Shape.Roots = 2 })
	turn("Room", func(s *api.State) { s.Shape.Room = 0 })
	turn("Room for too many lines", func(s *api.State) { s.Shape.Room = 2030 })
	turn("no slots", func(s *api.State) { s.Slots = nil })
	turn("a slot too few", func(s *api.State) { s.Slots = s.Slots[:7] })
	turn("a slot too many", func(s *api.State) { s.Slots = append(s.Slots, api.Slot{}) })
	turn("a slot and a row too many", func(s *api.State) { s.Slots, s.Data = append(s.Slots, api.Slot{}), append(s.Data, nil) })
	turn("Gen below 0", func(s *api.State) { s.Slots[0].Gen = -1 })
	turn("Gen past MaxGen", func(s *api.State) { s.Slots[1].Gen = lastGen + 1 })
	turn("a slot that is not live, with At", func(s *api.State) { s.Slots[0].At = 4 })
	turn("a slot that is not live, with Two", func(s *api.State) { s.Slots[3].Two = true })
	turn("a slot that is not live any more", func(s *api.State) { s.Slots[1].Live = false })
	turn("an object of no bytes", func(s *api.State) { s.Slots[1].Len, s.Data[1] = 0, nil })
	turn("an object of too many bytes", func(s *api.State) { s.Slots[1].Len, s.Data[1] = lastLen+1, filling(1, lastLen+1) })
	turn("no roots", func(s *api.State) { s.Roots = nil })
	turn("a root too many", func(s *api.State) { s.Roots = append(s.Roots, api.Root{}) })
	turn("a root's name", func(s *api.State) { s.Roots[0].Name = "a b" })
	turn("a root's name of 17 bytes", func(s *api.State) { s.Roots[0].Name = "seventeen.bytes.." })
	turn("a name twice", func(s *api.State) { s.Roots[0] = s.Roots[1] })
	turn("a handle without a name", func(s *api.State) { s.Roots[0].To.Gen = 1 })
	turn("a root's handle", func(s *api.State) { s.Roots[1].To.Index = 32 })
	turn("no rows", func(s *api.State) { s.Data = nil })
	turn("a row too few", func(s *api.State) { s.Data = s.Data[:7] })
	turn("a row too many", func(s *api.State) { s.Data = append(s.Data, nil) })
	turn("a missing row", func(s *api.State) { s.Data[1] = nil })
	turn("a byte too few", func(s *api.State) { s.Data[6] = s.Data[6][:299] })
	turn("a byte too many", func(s *api.State) { s.Data[6] = filling(6, 301) })
	turn("bytes of an open slot", func(s *api.State) { s.Data[0] = []byte{0} })
	turn("each other's bytes", func(s *api.State) { s.Data[1], s.Data[2] = s.Data[2], s.Data[1] })
	turn("format 1 where format 2 is", func(s *api.State) { s.Slots[1].At = 96 })
	turn("format 1 past the end", func(s *api.State) { s.Slots[4].At = 252 })
	turn("format 1 on another one", func(s *api.State) { s.Slots[1].At = 196 })
	turn("format 1 in no unit", func(s *api.State) { s.Slots[1].At = 170 })
	turn("format 2 where format 1 is", func(s *api.State) { s.Slots[2].At = 164 })
	turn("format 2 in no cell", func(s *api.State) { s.Slots[2].At = 5 })
	turn("format 2 in another one's cell", func(s *api.State) { s.Slots[2].At = 7 })
	turn("a large one within a page", func(s *api.State) { s.Slots[6].At = 36 })
	turn("a large one on a slab", func(s *api.State) { s.Slots[6].At = 96 })
	turn("of the other format", func(s *api.State) { s.Slots[1].Two = true })
	return l
}

func TestWrongStates(t *testing.T) {
	for what, s := range wrongStates() {
		if state.Right(s) {
			t.Fatalf("%s: %+v is right", what, cut(s))
		}
		refused(t, what, s)
	}
}

// numbers are all of a state's.
func numbers(s *api.State) []*int {
	l := []*int{&s.Shape.Pages, &s.Shape.Slots, &s.Shape.Roots, &s.Shape.Room, &s.Mode, &s.Base}
	for k := range s.Slots {
		l = append(l, &s.Slots[k].Gen, &s.Slots[k].At, &s.Slots[k].Len)
	}
	for k := range s.Roots {
		l = append(l, &s.Roots[k].To.Index, &s.Roots[k].To.Gen)
	}
	return l
}

// TestEachNumberTurned: a state is laid out if it is right, refused if not, whichever of its numbers is turned.
func TestEachNumberTurned(t *testing.T) {
	for _, was := range []api.State{full(), bare(small(), modeOne, 0), bare(small(), modeDown, 2)} {
		right := 0
		for i := range numbers(&was) {
			for _, n := range append(far(), 0, 1, 2, 3, 4, 5, 6, 8, 32, 64, 65535) {
				s := own(was)
				*numbers(&s)[i] = n
				if state.Right(s) {
					encodes(t, "turned", s)
					right++
				} else {
					refused(t, "turned", s)
				}
			}
		}
		if right < 10 {
			t.Errorf("%d turned states are right", right)
		}
	}
}

// P19.1: Shape

func shapeIs(t *testing.T, what string, b []byte, want api.Shape, is bool) {
	t.Helper()
	if got, yes := Shape(b); got != want || yes != is {
		t.Errorf("%s: Shape of %d bytes is %+v, %v; want %+v, %v", what, len(b), got, yes, want, is)
	}
}

// headByHand is a first line, whatever it says.
func headByHand(l ...int) []byte {
	var p paper
	p.words(l...)
	p.words(int(crc32.ChecksumIEEE(p.b)))
	return p.b
}

func headOf(s api.Shape, mode, base int) []byte {
	return headByHand(magic, mode, s.Pages, s.Slots, s.Roots, s.Room, base)
}

func linesIn(s api.Shape) int {
	return 1 + 1 + 2*s.Room + 1 + s.Slots/2 + s.Roots/2 + 26 + 4*s.Pages
}

// TestShapeOfStates tells what was laid out, and of a line or a byte more or less nothing.
func TestShapeOfStates(t *testing.T) {
	for _, shape := range shapes() {
		for _, mode := range modes() {
			b, _ := Encode(bare(shape, mode, map[int]int{modeTwo: shape.Pages}[mode]))
			shapeIs(t, "laid out", b, shape, true)
			for _, n := range []int{0, 1, 63, 64, 65, 128, len(b) - 64, len(b) - 8, len(b) - 1} {
				shapeIs(t, "cut", b[:n], api.Shape{}, false)
			}
			for _, n := range []int{1, 8, 63, 64, 128, len(b)} {
				shapeIs(t, "with more", append(slices.Clone(b), make([]byte, n)...), api.Shape{}, false)
			}
			shapeIs(t, "behind a line", append(make([]byte, 64), b...), api.Shape{}, false)
			shapeIs(t, "without its head", b[64:], api.Shape{}, false)
			shapeIs(t, "with another line ahead of as many", append(make([]byte, 64), b[:len(b)-64]...), api.Shape{}, false)
		}
	}
	shapeIs(t, "nil", nil, api.Shape{}, false)
	shapeIs(t, "none", []byte{}, api.Shape{}, false)
}

// TestShapeIsOfTheHeadAlone: whatever the other lines hold, as many as the head says.
func TestShapeIsOfTheHeadAlone(t *testing.T) {
	for _, shape := range shapes() {
		b := append(headOf(shape, modeDown, 1), bytes.Repeat([]byte{0xa5}, lineBytes*(linesIn(shape)-1))...)
		shapeIs(t, "only a head", b, shape, true)
		shapeIs(t, "a byte too few", b[:len(b)-1], api.Shape{}, false)
		shapeIs(t, "a line too few", b[:len(b)-64], api.Shape{}, false)
	}
}

// TestShapeOfOtherHeads: one of another shape is told if that has as many lines, else nothing.
func TestShapeOfOtherHeads(t *testing.T) {
	b, _ := Encode(full())
	for other, is := range map[api.Shape]bool{
		{Pages: 8, Slots: 6, Roots: 6, Room: 2}:  true,
		{Pages: 8, Slots: 10, Roots: 2, Room: 2}: true,
		{Pages: 8, Slots: 4, Roots: 4, Room: 3}:  true,
		{Pages: 7, Slots: 8, Roots: 4, Room: 4}:  true,
		{Pages: 8, Slots: 8, Roots: 6, Room: 2}:  false,
		{Pages: 8, Slots: 8, Roots: 4, Room: 1}:  false,
		{Pages: 7, Slots: 8, Roots: 4, Room: 2}:  false,
		small():                                  false,
	} {
		want := other
		if !is {
			want = api.Shape{}
		}
		shapeIs(t, "another head", append(headOf(other, modeUp, 4), b[64:]...), want, is)
	}
}

// TestShapeOfWrongHeads: of shapes, modes, bases that are not right there is no head, nor with another Magic or sum.
func TestShapeOfWrongHeads(t *testing.T) {
	s := small()
	rest := make([]byte, 107*lineBytes)
	tell := func(what string, is bool, l ...int) {
		t.Helper()
		want := api.Shape{}
		if is {
			want = s
		}
		shapeIs(t, what, append(headByHand(l...), rest...), want, is)
	}
	tell("right", true, magic, modeUp, 4, 4, 2, 30, 4)
	tell("magic", false, magic+1, modeUp, 4, 4, 2, 30, 4)
	tell("mode", false, magic, 0, 4, 4, 2, 30, 4)
	tell("mode", false, magic, 5, 4, 4, 2, 30, 4)
	tell("base", false, magic, modeUp, 4, 4, 2, 30, 5)
	tell("base", false, magic, modeOne, 4, 4, 2, 30, 4)
	tell("base", false, magic, modeTwo, 4, 4, 2, 30, 3)
	tell("no pages", false, magic, modeUp, 0, 4, 2, 38, 0)
	tell("odd slots", false, magic, modeUp, 4, 5, 2, 30, 0)
	tell("no roots", false, magic, modeUp, 4, 6, 0, 30, 0)
	for _, n := range far() {
		for i := range 7 {
			l := []int{magic, modeUp, 4, 4, 2, 30, 4}
			l[i] = n
			tell("far", false, l...)
		}
	}
	right := append(headOf(s, modeUp, 4), rest...)
	for i := range lineBytes {
		for bit := range 8 {
			b := slices.Clone(right)
			b[i] ^= 1 << bit
			shapeIs(t, "a bit turned", b, api.Shape{}, false)
		}
	}
}
