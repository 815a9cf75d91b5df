package pages

import (
	"math"
	"slices"
	"testing"

	"joist/api"
)

// The limits and kinds, written out: the tests must not lean on what they hold the package against.
const (
	words     = 32 // of a page
	mostPages = 64
	lastSmall = 120
	lastLen   = 2048

	free  = -1
	first = 6
	more  = 7
)

// sizes are the words of each class's cells, leasts and mosts the bytes that lie in them.
var (
	sizes  = [6]int{2, 3, 5, 7, 10, 15}
	leasts = [6]int{1, 17, 25, 41, 57, 81}
	mosts  = [6]int{16, 24, 40, 56, 80, 120}
)

// begins are the words of a slab where cells begin, written out.
var begins = [6][]int{
	{4, 6, 8, 10, 12, 14, 16, 18, 20, 22, 24, 26, 28, 30},
	{4, 7, 10, 13, 16, 19, 22, 25, 28},
	{4, 9, 14, 19, 24},
	{4, 11, 18, 25},
	{4, 14},
	{4},
}

// dice are numbers without an order that anybody sees, but the same each time.
func dice(seed uint32) func(n int) int {
	return func(n int) int {
		seed = seed*1664525 + 1013904223
		return int(seed>>8) % n
	}
}

func object(at, n int) api.Object { return api.Object{At: at, Len: n} }

// row are objects, by their numbers.
func row(numbers ...int) []api.Object {
	var l []api.Object
	for i := 0; i+1 < len(numbers); i += 2 {
		l = append(l, object(numbers[i], numbers[i+1]))
	}
	return l
}

// with is a row with one more behind it, in memory of its own.
func with(l []api.Object, o api.Object) []api.Object { return append(slices.Clone(l), o) }

// far are numbers past all that may be. Those past 2^32 have a right one in their lower half.
func far() []int {
	return []int{
		math.MinInt, math.MinInt + 1, math.MinInt + 4, math.MinInt + 16, math.MinInt + 32, math.MinInt + 36, math.MinInt + 300, math.MinInt / 2, -1 << 32, -1<<32 + 4, -1<<32 + 32, -2048, -2044, -64, -60, -36, -33, -32, -31, -28, -16, -5, -4, -3, -2, -1,
		2049, 2080, 1 << 31, 1<<31 + 4, 1 << 32, 1<<32 + 1, 1<<32 + 4, 1<<32 + 16, 1<<32 + 64, 1 << 61, 1 << 62, 1<<62 + 4, math.MaxInt - 255, math.MaxInt - 63, math.MaxInt - 31, math.MaxInt - 27, math.MaxInt - 4, math.MaxInt - 3, math.MaxInt - 1, math.MaxInt,
	}
}

// lens are numbers of bytes: both ends of each class, of each number of pages.
func lens() []int {
	l := append(leasts[:len(leasts):len(leasts)], mosts[:]...)
	for pages := 1; pages <= 8; pages++ {
		l = append(l, max(256*(pages-1), lastSmall)+1, 256*pages)
	}
	return l
}

// spot is what an object has, by the tests' own reckoning; of a large one the class is free.
type spot struct{ first, pages, class int }

// spotOf looks for an object at each place where one of its size may lie, one by one.
func spotOf(pages int, o api.Object) (spot, bool) {
	if o.Len < 1 || o.Len > lastLen {
		return spot{}, false
	}
	if o.Len > lastSmall {
		n := 1
		for n*words*8 < o.Len {
			n++
		}
		for p := 0; p+n <= pages; p++ {
			if o.At == p*words {
				return spot{p, n, free}, true
			}
		}
		return spot{}, false
	}
	class := 0
	for sizes[class]*8 < o.Len {
		class++
	}
	for p := range pages {
		for _, w := range begins[class] {
			if o.At == p*words+w {
				return spot{p, 1, class}, true
			}
		}
	}
	return spot{}, false
}

// apart tells whether two objects may lie in one heap.
func apart(a, b spot, sameCell bool) bool {
	if a.first+a.pages <= b.first || b.first+b.pages <= a.first {
		return true
	}
	return a.class != free && a.class == b.class && !sameCell
}

// reckon are the kinds of the pages, by the tests' own reckoning: it holds each two objects against each other.
func reckon(pages int, l []api.Object) ([]int, bool) {
	if pages < 0 || pages > mostPages {
		return nil, false
	}
	kinds := slices.Repeat([]int{free}, pages)
	var spots []spot
	for k, o := range l {
		s, is := spotOf(pages, o)
		if !is {
			return nil, false
		}
		for i, other := range spots {
			if !apart(s, other, o.At == l[i].At) {
				return nil, false
			}
		}
		spots = append(spots, s)
		for i := range spots[k].pages {
			switch {
			case s.class != free:
				kinds[s.first] = s.class
			case i == 0:
				kinds[s.first] = first
			default:
				kinds[s.first+i] = more
			}
		}
	}
	return kinds, true
}

// look holds Kinds against the tests' own reckoning, and tells whether the objects were right.
func look(t *testing.T, pages int, l []api.Object) bool {
	t.Helper()
	want, right := reckon(pages, l)
	if kinds, is := Kinds(pages, l); is != right || !slices.Equal(kinds, want) {
		t.Fatalf("Kinds(%d, %v) = %v, %v; want %v, %v", pages, cut(l), kinds, is, want, right)
	}
	return right
}

func refused(t *testing.T, pages int, l []api.Object) {
	t.Helper()
	if look(t, pages, l) {
		t.Fatalf("%d, %v are right", pages, cut(l))
	}
	refusedElsewhere(t, pages, l)
}

// refusedElsewhere: what Kinds refuses has no place and no mates.
func refusedElsewhere(t *testing.T, pages int, l []api.Object) {
	t.Helper()
	for _, n := range []int{1, 16, 120, 121, 257, lastLen} {
		if at, is := Place(pages, l, n); at != 0 || is {
			t.Fatalf("Place(%d, %v, %d) = %d, %v", pages, cut(l), n, at, is)
		}
	}
	for p := -1; p <= 9; p++ {
		if m := Mates(pages, l, p); len(m) != 0 {
			t.Fatalf("Mates(%d, %v, %d) = %v", pages, cut(l), p, m)
		}
	}
}

func right(t *testing.T, pages int, l []api.Object) {
	t.Helper()
	if !look(t, pages, l) {
		t.Fatalf("%d, %v are not right", pages, cut(l))
	}
}

// cut is what a test's message shows of a row.
func cut(l []api.Object) []api.Object { return l[:min(len(l), 12)] }

// slabOf are the objects of a page whose cells are all taken.
func slabOf(p, class int) []api.Object {
	var l []api.Object
	for _, w := range begins[class] {
		l = append(l, object(p*words+w, mosts[class]))
	}
	return l
}

// fullOf is a heap whose pages are all slabs of a class, without a free cell.
func fullOf(pages, class int) []api.Object {
	var l []api.Object
	for p := range pages {
		l = append(l, slabOf(p, class)...)
	}
	return l
}

// largeOnes are n large objects of so many bytes, one behind another.
func largeOnes(n, bytes, pages int) []api.Object {
	var l []api.Object
	for k := range n {
		l = append(l, object(k*pages*words, bytes))
	}
	return l
}

// rolled is a heap.
type rolled struct {
	pages int
	l     []api.Object
}

// rollHeap is a right heap of so many pages: of slabs of each class, large ones and free pages, in no order.
func rollHeap(roll func(int) int, pages int) rolled {
	var l []api.Object
	frees, larges := 1+roll(4), 1+roll(4)
	for p := 0; p < pages; p++ {
		switch {
		case roll(frees) == 0 && roll(3) > 0:
		case roll(larges) == 0:
			n := min(1+roll(8), pages-p)
			l = append(l, object(p*words, max(256*(n-1), lastSmall)+1+roll(136)))
			p += n - 1
		default:
			l = append(l, rollSlab(roll, p)...)
		}
	}
	for k := range l {
		i := roll(k + 1)
		l[k], l[i] = l[i], l[k]
	}
	return rolled{pages, l}
}

func rollSlab(roll func(int) int, p int) []api.Object {
	class, part := roll(6), 1+roll(5)
	var l []api.Object
	for _, w := range begins[class] {
		if part == 1 || roll(part) > 0 {
			l = append(l, object(p*words+w, leasts[class]+roll(mosts[class]-leasts[class]+1)))
		}
	}
	return l
}

// rolledHeaps are n heaps, and some at the ends of what there is.
func rolledHeaps(seed uint32, n int) []rolled {
	roll := dice(seed)
	l := []rolled{{0, nil}, {1, nil}, {mostPages, nil}, {mostPages, largeOnes(8, lastLen, 8)}, {mostPages, largeOnes(64, 121, 1)}}
	for class := range 6 {
		l = append(l, rolled{1, fullOf(1, class)}, rolled{2, fullOf(1, class)}, rolled{mostPages, fullOf(mostPages, class)})
	}
	for range n {
		l = append(l, rollHeap(roll, roll(1+roll(mostPages+1))), rollHeap(roll, mostPages-roll(3)))
	}
	return l
}

func TestRolledHeapsAreRight(t *testing.T) {
	seen := map[int]int{}
	for _, h := range rolledHeaps(1, 150) {
		right(t, h.pages, h.l)
		kinds, _ := Kinds(h.pages, h.l)
		for _, kind := range kinds {
			seen[kind]++
		}
	}
	for kind := free; kind <= more; kind++ {
		if seen[kind] < 100 {
			t.Errorf("%d pages are of kind %d", seen[kind], kind)
		}
	}
}

// P13.1

func TestKindsExamples(t *testing.T) {
	for _, one := range []struct {
		pages int
		l     []api.Object
		want  []int
	}{
		{3, row(4, 16, 32, 300), []int{0, first, more}},
		{4, row(4, 16, 32, 300), []int{0, first, more, free}},
		{4, row(32, 300, 4, 16), []int{0, first, more, free}},
		{0, nil, nil},
		{1, nil, []int{free}},
		{3, nil, []int{free, free, free}},
		{1, row(4, 1), []int{0}},
		{1, row(30, 16), []int{0}},
		{1, row(28, 17), []int{1}},
		{1, row(24, 40, 4, 25), []int{2}},
		{2, row(36, 41), []int{free, 3}},
		{2, row(14, 57, 46, 80, 4, 80), []int{4, 4}},
		{2, row(4, 120), []int{5, free}},
		{2, row(0, 121), []int{first, free}},
		{2, row(0, 256), []int{first, free}},
		{2, row(0, 257), []int{first, more}},
		{3, row(32, 121, 0, 121, 64, 121), []int{first, first, first}},
		{9, row(32, 2048), []int{free, first, more, more, more, more, more, more, more}},
		{9, row(0, 2048, 260, 120), []int{first, more, more, more, more, more, more, more, 5}},
		{7, row(196, 1, 164, 17, 132, 25, 100, 41, 68, 57, 36, 81, 0, 121), []int{first, 5, 4, 3, 2, 1, 0}},
	} {
		if kinds, is := Kinds(one.pages, one.l); !slices.Equal(kinds, one.want) || !is {
			t.Errorf("Kinds(%d, %v) = %v, %v; want %v", one.pages, one.l, kinds, is, one.want)
		}
		right(t, one.pages, one.l)
	}
}

func TestKindsOfNoObjects(t *testing.T) {
	for _, l := range [][]api.Object{nil, {}, row(1, 2, 3, 4)[:0]} {
		for pages := 0; pages <= mostPages; pages++ {
			right(t, pages, l)
		}
	}
}

func TestKindsOfNoSuchPages(t *testing.T) {
	for _, pages := range append(far(), -65, 65, 66, 127, 128, 256) {
		for _, l := range [][]api.Object{nil, {}, row(4, 16), row(0, 300), row(4, 16, 32, 300), row(2016, 121), row(2048, 121), row(2052, 1)} {
			refused(t, pages, l)
		}
	}
}

// TestEachCell: an object alone in each cell of each class, in the first pages and the last ones, with as few pages as hold it and with one too few.
func TestEachCell(t *testing.T) {
	for class, cells := range begins {
		for _, w := range cells {
			for _, n := range []int{leasts[class], leasts[class] + 1, mosts[class] - 1, mosts[class]} {
				for _, p := range []int{0, 1, 2, 31, 62, 63} {
					right(t, mostPages, row(p*words+w, n))
					right(t, p+1, row(p*words+w, n))
					refused(t, p, row(p*words+w, n))
				}
			}
		}
	}
}

// TestEachLarge: one of each number of pages, at each page, with as few pages as hold it and with one too few.
func TestEachLarge(t *testing.T) {
	for _, n := range []int{121, 122, 255, 256, 257, 512, 513, 768, 769, 1024, 1025, 1280, 1281, 1536, 1537, 1792, 1793, 2047, 2048} {
		pages := (n + 255) / 256
		for p := range mostPages {
			look(t, mostPages, row(p*words, n))
			if p+pages <= mostPages {
				right(t, p+pages, row(p*words, n))
				refused(t, p+pages-1, row(p*words, n))
			} else {
				refused(t, mostPages, row(p*words, n))
			}
		}
	}
}

// TestOneAnywhere: an object of each kind at each word, within the heap and around it.
func TestOneAnywhere(t *testing.T) {
	for _, pages := range []int{0, 1, 2, 9, 63, 64} {
		for _, n := range lens() {
			for at := -3 * words; at <= (mostPages+3)*words; at++ {
				look(t, pages, row(at, n))
			}
			for _, at := range far() {
				refused(t, pages, row(at, n))
				refused(t, pages, row(4, 16, at, n))
				refused(t, pages, row(at, n, 4, 16))
			}
		}
	}
}

func TestEachLen(t *testing.T) {
	for n := -lastLen - 300; n <= 2*lastLen; n++ {
		for _, at := range []int{0, 4, 7, 32, 36, 46, 1792, 2016, 2020} {
			look(t, mostPages, row(at, n))
		}
	}
	for _, n := range append(far(), 0) {
		for at := range 3 * words {
			refused(t, 4, row(at, n))
		}
		for _, at := range far() {
			refused(t, 4, row(at, n))
		}
	}
}

func TestWrongPlaces(t *testing.T) {
	for _, l := range [][]api.Object{
		row(0, 16), row(1, 16), row(2, 1), row(3, 16), row(5, 16), row(31, 16), row(32, 16), row(35, 1), // the head, between cells, the end
		row(31, 24), row(29, 40), row(32, 56), row(24, 80), row(19, 120), row(20, 120), // behind the last cell
		row(6, 17), row(7, 16), row(7, 25), row(9, 24), // where another class has a cell
		row(1, 121), row(4, 121), row(31, 121), row(33, 300), row(36, 300), row(16, 2048), // large, within a page
		row(96, 300), row(97, 121), row(128, 121), row(0, 1025), row(32, 769), row(64, 513), row(128, 2048), row(0, 2048), // past the last page
		row(128, 16), row(132, 16), row(160, 16), row(256, 121), // small, past the last page
		row(-28, 16), row(-4, 16), row(-32, 121), row(-32, 300), row(-64, 513), row(-1, 1), // ahead of the first page
		row(4, 0), row(0, 0), row(4, -1), row(4, -16), row(0, -121), row(0, 2049), row(4, 2049), row(0, 4096),
	} {
		for _, beside := range [][]api.Object{nil, row(100, 16), row(96, 121)} {
			refused(t, 4, append(slices.Clone(beside), l...))
			refused(t, 4, append(slices.Clone(l), beside...))
		}
	}
}

func TestWrongNeighbours(t *testing.T) {
	for _, l := range [][]api.Object{
		row(4, 16, 4, 16), row(4, 16, 4, 1), row(36, 120, 36, 81), row(10, 24, 4, 17, 10, 17), // one cell of two
		row(4, 16, 4, 17), row(4, 16, 7, 17), row(4, 16, 10, 17), row(4, 16, 25, 20), row(7, 20, 28, 16), row(4, 25, 24, 16), row(14, 80, 4, 16), row(4, 120, 20, 16), row(4, 81, 14, 80), // two classes in one page
		row(0, 121, 4, 16), row(0, 256, 30, 1), row(0, 121, 20, 1), row(0, 300, 36, 16), row(0, 300, 62, 16), row(32, 300, 68, 120), row(0, 1024, 100, 120), // a small one in a large one's page
		row(0, 121, 0, 121), row(0, 256, 0, 300), row(0, 300, 32, 121), row(0, 300, 32, 300), row(32, 257, 0, 257), row(0, 1024, 64, 121), row(0, 1024, 96, 256), row(32, 513, 0, 769), // two large ones share a page
	} {
		for i := range l {
			other := append(slices.Clone(l[i:]), l[:i]...)
			refused(t, 4, other)
			refused(t, mostPages, other)
			slices.Reverse(other)
			refused(t, 4, other)
		}
	}
}

// TestTwoObjects: each two of many, side by side and in each other's way.
func TestTwoObjects(t *testing.T) {
	var all []api.Object
	for p := range 3 {
		for class, cells := range begins {
			for _, w := range []int{cells[0], cells[len(cells)/2], cells[len(cells)-1]} {
				all = append(all, object(p*words+w, mosts[class]))
			}
		}
		for _, n := range []int{121, 256, 257, 513} {
			all = append(all, object(p*words, n))
		}
	}
	all = append(all, row(0, 16, 5, 16, 4, 0, -32, 300, 64, 300, 4, 2049, math.MinInt, 300, math.MaxInt-31, 121)...)
	rights := 0
	for _, a := range all {
		for _, b := range all {
			if look(t, 3, []api.Object{a, b}) {
				rights++
			}
		}
	}
	if rights == 0 || rights == len(all)*len(all) {
		t.Errorf("%d of %d were right", rights, len(all)*len(all))
	}
}

// TestFullHeaps: each cell of each page is taken; one more is too many, wherever it lies.
func TestFullHeaps(t *testing.T) {
	for class := range 6 {
		for _, pages := range []int{1, 2, mostPages} {
			l := fullOf(pages, class)
			right(t, pages, l)
			for _, o := range []api.Object{l[0], l[len(l)/2], l[len(l)-1], object(0, 121), object((pages-1)*words, 121), object(4, leasts[(class+1)%6]), object(pages*words+4, mosts[class])} {
				refused(t, pages, with(l, o))
				refused(t, pages, append([]api.Object{o}, l...))
			}
		}
	}
	for _, h := range []rolled{{mostPages, largeOnes(64, 121, 1)}, {mostPages, largeOnes(8, lastLen, 8)}, {mostPages, largeOnes(21, 513, 3)}} {
		right(t, h.pages, h.l)
		for _, o := range row(0, 121, 2015, 121, 1984, 121, 4, 16, 1956, 120) {
			look(t, h.pages, with(h.l, o))
		}
	}
}

// TestObjectsInAnyOrder: the kinds are of the objects, however they stand.
func TestObjectsInAnyOrder(t *testing.T) {
	roll := dice(3)
	for _, h := range rolledHeaps(2, 20) {
		want, _ := Kinds(h.pages, h.l)
		for range 5 {
			other := slices.Clone(h.l)
			for k := range other {
				i := roll(k + 1)
				other[k], other[i] = other[i], other[k]
			}
			if kinds, is := Kinds(h.pages, other); !is || !slices.Equal(kinds, want) {
				t.Fatalf("Kinds(%d, %v) = %v, %v; want %v", h.pages, cut(other), kinds, is, want)
			}
		}
	}
}

// TestNearRightHeaps: one number of a right heap is turned a little, an object is doubled, a page is less.
func TestNearRightHeaps(t *testing.T) {
	roll := dice(4)
	for _, h := range rolledHeaps(5, 40) {
		look(t, h.pages-1, h.l)
		look(t, h.pages+1, h.l)
		for range min(len(h.l), 10) {
			k := roll(len(h.l))
			refused(t, h.pages, with(h.l, h.l[k]))
			for _, by := range []int{-64, -32, -15, -7, -4, -3, -2, -1, 1, 2, 3, 4, 7, 15, 16, 32, 64, 256} {
				other := slices.Clone(h.l)
				other[k].At += by
				look(t, h.pages, other)
				other[k].At -= by
				other[k].Len += by
				look(t, h.pages, other)
			}
		}
	}
}

func TestMoreObjectsThanAHeapHolds(t *testing.T) {
	refused(t, mostPages, slices.Repeat(row(4, 16), 200000))
	refused(t, mostPages, append(fullOf(mostPages, 0), fullOf(mostPages, 0)...))
	var far []api.Object
	for p := range 20000 {
		far = append(far, object(p*words+4, 16))
	}
	refused(t, mostPages, far)
	slices.Reverse(far)
	refused(t, mostPages, far)
}

// W2: the same each time, whatever was asked between.
func TestSameEachTime(t *testing.T) {
	for range 3 {
		for _, h := range rolledHeaps(6, 3) {
			right(t, h.pages, h.l)
			lookPlaces(t, h.pages, h.l)
			lookMates(t, h.pages, h.l)
			refused(t, h.pages, with(h.l, object(3, 16)))
		}
	}
}
