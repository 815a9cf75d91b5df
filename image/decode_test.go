package image

import (
	"bytes"
	"encoding/binary"
	"slices"
	"strings"
	"testing"

	"joist/api"
	"joist/roots"
	"joist/shape"
	"joist/slab"
	"joist/state"
	"joist/table"
	"joist/tags"
	"joist/tree"
	"joist/wal"
)

// P19.2

// alike holds states against each other; a zero state is only like another one if that is zero, too.
func alike(a, b api.State) bool {
	return a.Shape == b.Shape && a.Mode == b.Mode && a.Base == b.Base &&
		slices.Equal(a.Slots, b.Slots) && slices.Equal(a.Roots, b.Roots) && slices.EqualFunc(a.Data, b.Data, bytes.Equal)
}

// outside are the bytes of b without its records' lines.
func outside(b []byte, s api.Shape) []byte {
	behind := lineBytes * (2 + 2*s.Room)
	return slices.Concat(b[:2*lineBytes], b[behind:])
}

// readByHand is the state that Decode must tell, reckoned once more; false, if it must tell none.
func readByHand(b []byte) (api.State, bool) {
	if len(b) < lineBytes || len(b)%lineBytes != 0 {
		return api.State{}, false
	}
	word := func(at int) int { return int(binary.LittleEndian.Uint64(b[8*at:])) }
	s := api.State{Shape: api.Shape{Pages: word(2), Slots: word(3), Roots: word(4), Room: word(5)}, Mode: word(1), Base: word(6)}
	for _, n := range []int{s.Shape.Pages, s.Shape.Slots, s.Shape.Roots, s.Shape.Room} {
		if n < 1 || n > 4096 {
			return api.State{}, false
		}
	}
	if linesIn(s.Shape)*lineBytes != len(b) {
		return api.State{}, false
	}
	first := 8 * (2 + 2*s.Shape.Room + 1)
	heap := b[len(b)-256*s.Shape.Pages:]
	for k := range s.Shape.Slots {
		at := first + 4*k
		slot := api.Slot{Gen: word(at) / 4, Live: word(at)&2 != 0, Two: word(at)&1 != 0, At: word(at + 1), Len: word(at + 2)}
		from := 8 * slot.At
		if !slot.Two {
			from += 8
		}
		var row []byte
		if slot.Live && slot.At >= 0 && slot.At < 4096 && slot.Len >= 0 && slot.Len < 4096 && from+slot.Len <= len(heap) {
			row = heap[from : from+slot.Len]
		}
		s.Slots, s.Data = append(s.Slots, slot), append(s.Data, row)
	}
	for k := range s.Shape.Roots {
		at := first + 4*s.Shape.Slots + 4*k
		r := api.Root{Name: strings.TrimRight(string(b[8*at:8*at+16]), "\x00")}
		if n := word(at+2) - 1; r.Name != "" {
			r.To = api.Handle{Index: n / 65536, Gen: n % 65536}
		}
		s.Roots = append(s.Roots, r)
	}
	if !state.Right(s) || !bytes.Equal(outside(byHand(s), s.Shape), outside(b, s.Shape)) {
		return api.State{}, false
	}
	return s, true
}

// decodes holds Decode against the tests' own reckoning, and tells whether there was a state.
func decodes(t *testing.T, what string, b []byte) bool {
	t.Helper()
	want, is := readByHand(b)
	e := api.OK
	if !is {
		e = api.ErrCorrupt
	}
	if got, told := Decode(b); told != e || !alike(got, want) {
		t.Fatalf("%s: Decode tells %+v, %d; want %+v, %d", what, cut(got), told, cut(want), e)
	}
	return is
}

// corrupt holds Decode of bytes that are no state's against what it must tell.
func corrupt(t *testing.T, what string, b []byte) {
	t.Helper()
	if s, e := Decode(b); e != api.ErrCorrupt || !alike(s, api.State{}) {
		t.Fatalf("%s: Decode tells %+v, %d; want a zero state, ErrCorrupt", what, cut(s), e)
	}
	decodes(t, what, b)
}

// reads holds Decode against the state that it must tell.
func reads(t *testing.T, what string, b []byte, want api.State) {
	t.Helper()
	if s, e := Decode(b); e != api.OK || !alike(s, want) || !state.Right(s) {
		t.Fatalf("%s: Decode tells %+v, %d; want %+v, OK", what, cut(s), e, cut(want))
	}
}

// noisy is b, whose records' lines hold anything.
func noisy(b []byte, s api.Shape, roll func(int) int) []byte {
	b = slices.Clone(b)
	records := b[2*lineBytes:][:2*lineBytes*s.Room]
	for i := range records {
		records[i] = byte(roll(256))
	}
	return b
}

func TestDecodeOfNamedStates(t *testing.T) {
	roll := dice(31)
	for what, s := range named() {
		b := byHand(s)
		reads(t, what, b, s)
		reads(t, what+", with anything as records", noisy(b, s.Shape, roll), s)
	}
}

func TestDecodeOfRolledStates(t *testing.T) {
	roll := dice(32)
	for _, s := range rolled(33, 6, shapes()...) {
		b := byHand(s)
		reads(t, "rolled", b, s)
		reads(t, "rolled, with anything as records", noisy(b, s.Shape, roll), s)
	}
}

func TestDecodeOfBareStates(t *testing.T) {
	for _, shape := range shapes() {
		for _, mode := range modes() {
			for _, base := range []int{0, 1, shape.Pages / 2, shape.Pages - 1, shape.Pages} {
				if s := bare(shape, mode, base); state.Right(s) {
					reads(t, "bare", byHand(s), s)
					reads(t, "all slots spent", byHand(spent(s)), spent(s))
				}
			}
		}
	}
}

// TestNoHeap: bytes too few and too many, by bytes, words and lines, and such as are no heap at all.
func TestNoHeap(t *testing.T) {
	corrupt(t, "nil", nil)
	corrupt(t, "none", []byte{})
	// Without spare room, as bytes behind these must not be looked at.
	for n := range 200 {
		corrupt(t, "a few zeros", make([]byte, n))
		few := slices.Clip(slices.Clone(byHand(full())[:n]))
		corrupt(t, "a heap's first bytes", few)
		shapeIs(t, "a heap's first bytes", few, api.Shape{}, false)
		sameIs(t, "a heap's first bytes", few, few, false)
		sameIs(t, "a heap and its first bytes", few, byHand(full()), false)
	}
	for _, s := range []api.State{full(), bare(small(), modeOne, 0), bare(small(), modeTwo, 4)} {
		b := byHand(s)
		for n := range len(b) {
			if n < 200 || n%64 < 2 || n > len(b)-70 {
				corrupt(t, "cut", b[:n])
			}
		}
		for _, n := range []int{1, 2, 8, 63, 64, 65, 128, len(b)} {
			corrupt(t, "with zeros behind", append(slices.Clone(b), make([]byte, n)...))
			corrupt(t, "with zeros ahead", append(make([]byte, n), b...))
			corrupt(t, "without its front", b[n:])
			corrupt(t, "shifted", append(make([]byte, n), b[:len(b)-n]...))
		}
		line := b[8*lineBytes:][:lineBytes]
		corrupt(t, "a line twice", slices.Insert(slices.Clone(b), 8*lineBytes, line...))
		corrupt(t, "no head", append(make([]byte, lineBytes), b[lineBytes:]...))
		corrupt(t, "bytes 0", make([]byte, len(b)))
		corrupt(t, "bytes 255", bytes.Repeat([]byte{255}, len(b)))
	}
}

// part is a row of lines, by its name.
type part struct {
	name     string
	from, to int
}

func partsOf(s api.Shape) []part {
	heads := 2 + 2*s.Room
	table := heads + 1
	roots := table + s.Slots/2
	tree := roots + s.Roots/2
	heap := tree + 26
	return []part{{"head", 0, 1}, {"mark", 1, 2}, {"records", 2, heads}, {"heads", heads, table}, {"table", table, roots}, {"roots", roots, tree}, {"tree", tree, heap}, {"heap", heap, heap + 4*s.Pages}}
}

// partAt is the name of the part that has that byte.
func partAt(s api.Shape, i int) string {
	for _, p := range partsOf(s) {
		if i < lineBytes*p.to {
			return p.name
		}
	}
	return "none"
}

// ofObjects tells of each byte whether it is one of an object's.
func ofObjects(s api.State) []bool {
	l := make([]bool, linesIn(s.Shape)*lineBytes)
	heap := l[len(l)-256*s.Shape.Pages:]
	for _, slot := range s.Slots {
		if slot.Live {
			from := 8 * slot.At
			if !slot.Two {
				from += 8
			}
			for i := range slot.Len {
				heap[from+i] = true
			}
		}
	}
	return l
}

// TestEachByteTurned: a turned byte of a record, of an object or one that says another right thing of a slot or root leads to a state, any other one to none.
func TestEachByteTurned(t *testing.T) {
	for _, was := range []api.State{full(), laid(bare(small(), modeOne, 0), false, 2, 8, 30), laid(bare(small(), modeTwo, 4), true, 2, 36, 30, 0, 64, 258)} {
		b := byHand(was)
		objects := ofObjects(was)
		read := map[string]int{}
		for i := range b {
			name := partAt(was.Shape, i)
			for _, turn := range []byte{1, 4, 0x80, 0xff} {
				b[i] ^= turn
				is := decodes(t, "a byte of the "+name, b)
				if want := name == "records" || objects[i]; is != want && name != "table" && name != "roots" {
					t.Fatalf("byte %d of line %d, of the %s: read is %v", i%lineBytes, i/lineBytes, name, is)
				}
				if is {
					read[name]++
				}
				b[i] ^= turn
			}
		}
		if read["table"] == 0 || read["heap"] == 0 || read["head"]+read["mark"]+read["heads"]+read["tree"] != 0 {
			t.Errorf("%+v: read are %v", cut(was), read)
		}
		reads(t, "turned back", b, was)
	}
}

// TestRestsMustBeZero: behind data, in cells that are not used, in free pages, in gaps.
func TestRestsMustBeZero(t *testing.T) {
	b := byHand(full())
	heap := b[39*lineBytes:]
	for what, at := range map[string]int{
		"behind an object in its cell":      8*4 + 20,
		"a cell between":                    8 * 10,
		"behind the last cell":              8 * 31,
		"behind a large object's last byte": 8*32 + 300,
		"the last byte of its last page":    8*96 - 1,
		"a free page's first byte":          8 * 96,
		"a free page's last byte":           8*128 - 1,
		"behind the links of a gap":         8 * 163,
		"in a gap's last words":             8*167 - 1,
		"behind an object in its block":     8*169 + 5,
		"a word that the block has over":    8 * 170,
		"the last gap":                      8*255 - 1,
	} {
		if heap[at] != 0 {
			t.Fatalf("%s: byte %d is not 0", what, at)
		}
		for _, n := range []byte{1, 0x80, 0xff} {
			heap[at] = n
			corrupt(t, what, b)
		}
		heap[at] = 0
	}
	reads(t, "as it was", b, full())
}

// TestMarkOfRecords: a heap whose log is not at rest is none, be its mark right or not.
func TestMarkOfRecords(t *testing.T) {
	b := byHand(full())
	a, _ := shape.Areas(full().Shape)
	records, mark, e := wal.Write(a.Log, []api.Change{{Line: 70, B: b[70*lineBytes:]}})
	if e != api.OK {
		t.Fatal(e)
	}
	copy(b[2*lineBytes:], records)
	reads(t, "records without a mark", b, full())
	copy(b[lineBytes:], mark)
	corrupt(t, "a mark of records", b)
	b[lineBytes]++
	corrupt(t, "a mark that is not theirs", b)
	clear(b[lineBytes : 2*lineBytes])
	reads(t, "a mark of none", b, full())
	for i := range lineBytes {
		b[lineBytes+i] = 1
		corrupt(t, "a byte in the mark", b)
		b[lineBytes+i] = 0
	}
}

// over are the bytes b with others over them, from a line's word on.
func over(b []byte, line, word int, other []byte) []byte {
	b = slices.Clone(b)
	copy(b[lineBytes*line+8*word:], other)
	return b
}

func wordsOf(l ...int) []byte {
	var p paper
	p.words(l...)
	return p.b
}

// TestHeadsThatDoNotFit: numbers that other slots and gaps would have.
func TestHeadsThatDoNotFit(t *testing.T) {
	b := byHand(full())
	right := []int{1, 0, 161, 0, 173, 209, 0, 0}
	reads(t, "as they are", over(b, 6, 0, wordsOf(right...)), full())
	for i := range right {
		for _, n := range []int{0, 1, 4, 8, 161, 173, 209, 257, 1 << 62} {
			if l := slices.Clone(right); l[i] != n {
				l[i] = n
				corrupt(t, "a head", over(b, 6, 0, wordsOf(l...)))
			}
		}
		for k := range i {
			l := slices.Clone(right)
			if l[i] != l[k] {
				l[i], l[k] = l[k], l[i]
				corrupt(t, "two heads", over(b, 6, 0, wordsOf(l...)))
			}
		}
	}
}

// TestSlotsThatDoNotFit: tables that are right by themselves, some of which tell of the same bytes another thing.
func TestSlotsThatDoNotFit(t *testing.T) {
	b := byHand(full())
	try := func(what string, k int, slot api.Slot, is bool) {
		t.Helper()
		s := full()
		s.Slots[k] = slot
		l, e := table.Bytes(s.Slots)
		if e != api.OK {
			t.Fatalf("%s: the table is not right", what)
		}
		if decodes(t, what, over(b, 7, 0, l)) != is {
			t.Errorf("%s: read is %v", what, !is)
		}
	}
	try("the first open slot is spent", 0, api.Slot{Gen: lastGen}, false)
	try("the second open slot is spent", 3, api.Slot{Gen: lastGen}, true)
	try("an open slot of another Gen", 3, api.Slot{Gen: 2}, true)
	try("a live slot of another Gen", 1, api.Slot{Gen: 9, Live: true, At: 168, Len: 5}, true)
	try("an open slot is live, in a gap", 0, api.Slot{Gen: 7, Live: true, At: 160, Len: 1}, false)
	try("an open slot is live, in a free page", 3, api.Slot{Live: true, Two: true, At: 96, Len: 200}, false)
	try("an open slot is live, in a slab", 3, api.Slot{Live: true, Two: true, At: 10, Len: 17}, false)
	try("an open slot is live, where another one's block is", 3, api.Slot{Live: true, At: 168, Len: 5}, false)
	try("an open slot is live, where another one's cell is", 3, api.Slot{Live: true, Two: true, At: 4, Len: 20}, false)
	try("a live slot of format 1 is open", 1, api.Slot{}, false)
	try("a live slot of format 1 is spent", 4, api.Slot{Gen: lastGen}, false)
	try("a live slot of format 2 is spent", 5, api.Slot{Gen: lastGen}, false)
	try("the block of another place", 1, api.Slot{Live: true, At: 172, Len: 5}, false)
	try("the block of another slot", 1, api.Slot{Live: true, At: 192, Len: 100}, false)
	try("of the other format", 1, api.Slot{Live: true, Two: true, At: 168, Len: 5}, false)
	try("a byte 0 of its block more", 1, api.Slot{Gen: 300, Live: true, At: 168, Len: 6}, true)
	try("all bytes of its block", 1, api.Slot{Gen: 300, Live: true, At: 168, Len: 16}, true)
	try("more bytes than its block has", 1, api.Slot{Gen: 300, Live: true, At: 168, Len: 17}, false)
	try("fewer bytes than there are", 1, api.Slot{Gen: 300, Live: true, At: 168, Len: 4}, false)
	try("a byte 0 of its cell more", 2, api.Slot{Live: true, Two: true, At: 4, Len: 21}, true)
	try("another class's bytes", 2, api.Slot{Live: true, Two: true, At: 4, Len: 25}, false)
	try("a lesser class's bytes", 2, api.Slot{Live: true, Two: true, At: 4, Len: 16}, false)
	try("another cell", 2, api.Slot{Live: true, Two: true, At: 10, Len: 20}, false)
	try("all bytes of its pages", 6, api.Slot{Live: true, Two: true, At: 32, Len: 512}, true)
	try("a page more", 6, api.Slot{Live: true, Two: true, At: 32, Len: 513}, false)
	try("a page fewer", 6, api.Slot{Live: true, Two: true, At: 32, Len: 256}, false)
	try("past the end, format 1", 1, api.Slot{Live: true, At: 252, Len: 100}, false)
	try("at the end, format 1", 1, api.Slot{Live: true, At: 256, Len: 1}, false)
	try("far past the end", 1, api.Slot{Live: true, At: 2048, Len: lastLen}, false)
	try("far past the end, format 2", 2, api.Slot{Live: true, Two: true, At: 2048, Len: lastLen}, false)
	for link, word := range map[int]int{0: 3, 4: 3, 1: 15, 2: 15} {
		if n := binary.LittleEndian.Uint64(b[7*lineBytes+8*word:]); n != uint64(link) {
			corrupt(t, "an open slot's link", over(b, 7, word, wordsOf(link)))
		}
	}
}

// TestSlabsThatDoNotFit: each is a slab by itself.
func TestSlabsThatDoNotFit(t *testing.T) {
	b := byHand(full())
	try := func(what string, page, class int, used []int, next, prev int, is bool) {
		t.Helper()
		var rows [][]byte
		for _, cell := range used {
			from := lineBytes*39 + 8*(page*pageWords+begins[class][cell])
			rows = append(rows, b[from:from+cellBytes[class]])
		}
		l, e := slab.Write(class, used, rows, next, prev)
		if _, _, _, _, _, right := slab.Read(l); e != api.OK || !right {
			t.Fatalf("%s: the slab is not right", what)
		}
		if decodes(t, what, over(b, 39, 8*4*page, l)) != is {
			t.Errorf("%s: read is %v", what, !is)
		}
	}
	try("as it is", 0, 1, []int{0, 1}, 5, 0, true)
	try("as it is", 4, 1, []int{1}, 0, 1, true)
	for n := 0; n <= mostPages; n++ {
		try("next", 0, 1, []int{0, 1}, n, 0, n == 5)
		try("prev", 0, 1, []int{0, 1}, 5, n, n == 0)
		try("next", 4, 1, []int{1}, n, 1, n == 0)
		try("prev", 4, 1, []int{1}, 0, n, n == 1)
	}
	try("both turned", 0, 1, []int{0, 1}, 0, 5, false)
	try("a cell fewer", 0, 1, []int{0}, 5, 0, false)
	try("a cell more", 0, 1, []int{0, 1, 2}, 5, 0, false)
	try("another cell", 4, 1, []int{2}, 0, 1, false)
	try("another class", 4, 0, []int{1}, 0, 1, false)
	try("another class of one cell", 4, 5, []int{0}, 0, 1, false)
	l, _ := slab.Write(1, []int{0}, [][]byte{nil}, 0, 0)
	for _, page := range []int{3, 5, 7} {
		corrupt(t, "a slab more", over(b, 39, 8*4*page, l))
	}
	s := full()
	copy(s.Data[6], l)
	reads(t, "a slab that is a large object's bytes", over(b, 39, 8*4, l), s)
	for _, page := range []int{0, 4} {
		corrupt(t, "a slab fewer", over(b, 39, 8*4*page, make([]byte, 256)))
	}
}

// TestExtentsThatDoNotFit: trees that are right by themselves.
func TestExtentsThatDoNotFit(t *testing.T) {
	b := byHand(full())
	try := func(what string, pages int, is bool, l ...api.Extent) {
		t.Helper()
		all, e := tree.Write(pages, 13, l)
		if e != api.OK {
			t.Fatalf("%s: the extents are not right", what)
		}
		if decodes(t, what, over(b, 13, 0, all)) != is {
			t.Errorf("%s: read is %v", what, !is)
		}
	}
	const free, cells, large = api.UseFree, api.UseSlab, api.UseLarge
	try("as it is", 5, true, api.Extent{Size: 1, Use: cells}, api.Extent{At: 1, Size: 2, Use: large}, api.Extent{At: 3, Size: 1, Use: free}, api.Extent{At: 4, Size: 1, Use: cells})
	try("a slab that is large", 5, false, api.Extent{Size: 1, Use: large}, api.Extent{At: 1, Size: 2, Use: large}, api.Extent{At: 3, Size: 1, Use: free}, api.Extent{At: 4, Size: 1, Use: cells})
	try("a slab that is free", 5, false, api.Extent{Size: 1, Use: cells}, api.Extent{At: 1, Size: 2, Use: large}, api.Extent{At: 3, Size: 2, Use: free})
	try("a free page that is large", 5, false, api.Extent{Size: 1, Use: cells}, api.Extent{At: 1, Size: 2, Use: large}, api.Extent{At: 3, Size: 1, Use: large}, api.Extent{At: 4, Size: 1, Use: cells})
	try("a free page that is a slab", 5, false, api.Extent{Size: 1, Use: cells}, api.Extent{At: 1, Size: 2, Use: large}, api.Extent{At: 3, Size: 1, Use: cells}, api.Extent{At: 4, Size: 1, Use: cells})
	try("a longer large one", 5, false, api.Extent{Size: 1, Use: cells}, api.Extent{At: 1, Size: 3, Use: large}, api.Extent{At: 4, Size: 1, Use: cells})
	try("two large ones", 5, false, api.Extent{Size: 1, Use: cells}, api.Extent{At: 1, Size: 1, Use: large}, api.Extent{At: 2, Size: 1, Use: large}, api.Extent{At: 3, Size: 1, Use: free}, api.Extent{At: 4, Size: 1, Use: cells})
	try("a page more", 6, false, api.Extent{Size: 1, Use: cells}, api.Extent{At: 1, Size: 2, Use: large}, api.Extent{At: 3, Size: 1, Use: free}, api.Extent{At: 4, Size: 1, Use: cells}, api.Extent{At: 5, Size: 1, Use: free})
	try("a page fewer", 4, false, api.Extent{Size: 1, Use: cells}, api.Extent{At: 1, Size: 2, Use: large}, api.Extent{At: 3, Size: 1, Use: free})
	try("none", 0, false)
	try("all free", 5, false, api.Extent{Size: 5, Use: free})
	corrupt(t, "no tree", over(b, 13, 0, make([]byte, 26*lineBytes)))
}

// TestTagsThatDoNotFit: heaps of format 1 that are right by themselves, with their own heads.
func TestTagsThatDoNotFit(t *testing.T) {
	s := full()
	b := byHand(s)
	try := func(what string, is bool, l ...api.Block) {
		t.Helper()
		var rows [][]byte
		for _, block := range l {
			rows = append(rows, s.Data[block.Index])
		}
		heap, heads, e := tags.Write(160, 256, l, rows)
		if e != api.OK {
			t.Fatalf("%s: the blocks are not right", what)
		}
		all := over(b, 59, 0, heap)
		if decodes(t, what, over(all, 6, 1, wordsOf(heads...))) != is {
			t.Errorf("%s: read is %v", what, !is)
		}
		if is = slices.Equal(all, b); decodes(t, what, all) != is {
			t.Errorf("%s, with the heads that were: read is %v", what, !is)
		}
	}
	mine, other := api.Block{At: 168, Size: 4, Index: 1}, api.Block{At: 192, Size: 16, Index: 4}
	try("as it is", true, mine, other)
	try("a block fewer", false, mine)
	try("none", false)
	try("a block more", false, api.Block{At: 160, Size: 4}, mine, other)
	try("a block more, in all of a gap", false, mine, other, api.Block{At: 208, Size: 48, Index: 3})
	try("a block more, for a slot that there is not", false, mine, other, api.Block{At: 212, Size: 4, Index: 0})
	try("another slot's", false, api.Block{At: 168, Size: 4, Index: 0}, other)
	try("each the other's", false, api.Block{At: 168, Size: 16, Index: 4}, api.Block{At: 192, Size: 4, Index: 1})
	try("a larger one", false, api.Block{At: 168, Size: 8, Index: 1}, other)
	try("one that goes to the next", false, api.Block{At: 168, Size: 24, Index: 1}, other)
	try("one further ahead", false, api.Block{At: 164, Size: 4, Index: 1}, other)
	for at, n := range map[int]int{
		160: 64 * 4, 161: 209, 162: 173, 167: 64*8 + 1, 168: 64*4 + 1, 171: 64*4 + 3, 172: 64*20 + 3, 173: 1, 191: 64 * 24, 255: 0,
	} {
		corrupt(t, "a word of a tag or link", over(b, 39, at, wordsOf(n)))
	}
}

// TestRootsThatAreNone, and others that are.
func TestRootsThatAreNone(t *testing.T) {
	s := full()
	b := byHand(s)
	s.Roots[0] = api.Root{Name: "other", To: api.Handle{Gen: 5}}
	l, _ := roots.Bytes(s.Roots)
	reads(t, "other roots", over(b, 11, 0, l), s)
	corrupt(t, "a name twice", over(b, 11, 0, over(l, 0, 0, l[32:64])))
	corrupt(t, "a number without a name", over(b, 11, 2, wordsOf(1)))
	corrupt(t, "a name without a number", over(b, 11, 6, wordsOf(0)))
	corrupt(t, "a number of no handle", over(b, 11, 6, wordsOf(32*65536+1)))
	corrupt(t, "a word behind", over(b, 11, 7, wordsOf(1)))
	corrupt(t, "no name", over(b, 11, 4, wordsOf(32)))
	corrupt(t, "a name with a byte 0 within", over(b, 11, 5, wordsOf(97)))
}

// TestOtherHeads: right ones, of other modes, bases and shapes. Only the mode of a heap that is on its way may be another one.
func TestOtherHeads(t *testing.T) {
	for _, was := range []api.State{full(), bare(full().Shape, modeUp, 5), spent(bare(full().Shape, modeUp, 5)), spent(bare(full().Shape, modeUp, 0)), bare(full().Shape, modeDown, 8)} {
		b := byHand(was)
		for mode := range 6 {
			for base := range 10 {
				s := own(was)
				s.Mode, s.Base = mode, base
				is := decodes(t, "another mode, another base", over(b, 0, 0, headOf(s.Shape, mode, base)))
				if want := base == was.Base && state.Right(s); is != want {
					t.Errorf("mode %d and base %d for %+v: read is %v", mode, base, cut(was), is)
				}
			}
		}
		others := ofAsManyLines(was.Shape)
		if len(others) < 20 {
			t.Fatalf("%d other shapes", len(others))
		}
		for _, other := range others {
			corrupt(t, "another shape", over(b, 0, 0, headOf(other, was.Mode, was.Base)))
			corrupt(t, "another shape", over(b, 0, 0, headOf(other, modeDown, min(other.Pages, was.Base))))
		}
	}
}

// ofAsManyLines are other shapes with as many lines.
func ofAsManyLines(s api.Shape) []api.Shape {
	var l []api.Shape
	for pages := 1; pages <= s.Pages+4; pages++ {
		for slots := 2; slots <= 32; slots += 2 {
			for roots := 2; roots <= 8; roots += 2 {
				other := api.Shape{Pages: pages, Slots: slots, Roots: roots}
				other.Room = (linesIn(s) - linesIn(other)) / 2
				if other != s && other.Room > 0 && linesIn(other) == linesIn(s) {
					l = append(l, other)
				}
			}
		}
	}
	return l
}

// TestWildTables: right tables that tell of places anywhere, also where the heap has none.
func TestWildTables(t *testing.T) {
	roll := dice(34)
	for _, shape := range []api.Shape{{Pages: 1, Slots: 2, Roots: 2, Room: 1}, small(), wide()} {
		for range 300 {
			s := bare(shape, 1+roll(4), 0)
			s.Base = [5]int{modeTwo: shape.Pages, modeUp: roll(shape.Pages + 1), modeDown: roll(shape.Pages + 1)}[s.Mode]
			b := byHand(s)
			slots := make([]api.Slot, shape.Slots)
			for k := range slots {
				if roll(3) > 0 {
					slots[k] = api.Slot{Gen: roll(65536), Live: true, Two: roll(2) == 0, At: []int{roll(2049), roll(32 * shape.Pages), 2048}[roll(3)], Len: []int{1, 1 + roll(lastLen), lastLen}[roll(3)]}
				}
			}
			l, e := table.Bytes(slots)
			if e != api.OK {
				t.Fatal(e)
			}
			decodes(t, "a wild table", over(b, 2+2*shape.Room+1, 0, l))
		}
	}
}

// TestWildBytes: anything behind a head, and parts of one state within another.
func TestWildBytes(t *testing.T) {
	roll := dice(35)
	all := rolled(36, 6, small(), full().Shape)
	for _, s := range all {
		b := byHand(s)
		for i := lineBytes; i < len(b); i++ {
			b[i] = byte(roll(256))
		}
		corrupt(t, "anything behind a head", b)
	}
	for _, s := range all {
		for _, other := range all {
			if s.Shape != other.Shape {
				continue
			}
			b, more := byHand(s), byHand(other)
			p := partsOf(s.Shape)[roll(8)]
			copy(b[lineBytes*p.from:lineBytes*p.to], more[lineBytes*p.from:])
			decodes(t, "a part of another state", b)
		}
	}
}
