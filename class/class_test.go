package class

import (
	"math"
	"testing"

	"joist/api"
)

// The limits, written out: the tests must not lean on what they hold the package against.
const (
	page      = 32 // words
	head      = 4  // words
	lastClass = 5
	lastSmall = 120
	lastLen   = 2048
)

// sizes are the words of the cells, by the chapter.
func sizes() []int { return []int{2, 3, 5, 7, 10, 15} }

// begins are the words of a slab where cells begin: the tests' own reckoning, which lays one cell behind another till the page is full.
func begins(size int) []int {
	var l []int
	for at := head; at+size <= page; at += size {
		l = append(l, at)
	}
	return l
}

// badClasses are there none of. Those past 2^32 have a class's number in their lower half.
func badClasses() []int {
	return []int{
		math.MinInt, math.MinInt + 1, math.MinInt + 5, -1 << 32, -1<<32 + 3, -32, -6, -5, -2, -1,
		6, 7, 8, 31, 32, 255, 256, 1 << 31, 1 << 32, 1<<32 + 5, 1 << 62, math.MaxInt - 1, math.MaxInt,
	}
}

// edges are numbers at the ends of what may be, and at those of all numbers.
func edges() []int {
	return []int{
		math.MinInt, math.MinInt + 1, math.MinInt + 2, math.MinInt + 3, math.MinInt + 4, math.MinInt + 5, math.MinInt / 2, -1 << 32, -1<<32 + 4, -2048, -120, -32, -28, -16, -15, -10, -7, -5, -4, -3, -2, -1,
		1 << 31, 1<<31 + 4, 1 << 32, 1<<32 + 1, 1<<32 + 4, 1 << 60, 1 << 61, 1<<61 + 4, 1 << 62, 1<<62 + 4, 1<<62 + 200, math.MaxInt - 256, math.MaxInt - 255, math.MaxInt - 120, math.MaxInt - 8, math.MaxInt - 4, math.MaxInt - 3, math.MaxInt - 1, math.MaxInt,
	}
}

// wantOf holds Of against an answer.
func wantOf(t *testing.T, n, class int, is bool) {
	t.Helper()
	if c, small := Of(n); c != class || small != is {
		t.Errorf("Of(%d): %d, %v, not %d, %v", n, c, small, class, is)
	}
}

func wantWords(t *testing.T, class, words int, e api.Errno) {
	t.Helper()
	if n, got := Words(class); n != words || got != e {
		t.Errorf("Words(%d): %d, %d, not %d, %d", class, n, got, words, e)
	}
}

func wantCells(t *testing.T, class, cells int, e api.Errno) {
	t.Helper()
	if n, got := Cells(class); n != cells || got != e {
		t.Errorf("Cells(%d): %d, %d, not %d, %d", class, n, got, cells, e)
	}
}

func wantPages(t *testing.T, n, pages int, e api.Errno) {
	t.Helper()
	if p, got := Pages(n); p != pages || got != e {
		t.Errorf("Pages(%d): %d, %d, not %d, %d", n, p, got, pages, e)
	}
}

func wantCell(t *testing.T, class, k, at int, e api.Errno) {
	t.Helper()
	if w, got := Cell(class, k); w != at || got != e {
		t.Errorf("Cell(%d, %d): %d, %d, not %d, %d", class, k, w, got, at, e)
	}
}

func wantWhich(t *testing.T, class, offset, k int, is bool) {
	t.Helper()
	if c, found := Which(class, offset); c != k || found != is {
		t.Errorf("Which(%d, %d): %d, %v, not %d, %v", class, offset, c, found, k, is)
	}
}

func TestExamples(t *testing.T) {
	wantOf(t, 16, 0, true)
	wantOf(t, 17, 1, true)
	wantOf(t, 121, 0, false)
	wantWords(t, 5, 15, api.OK)
	wantCells(t, 0, 14, api.OK)
	wantCells(t, 5, 1, api.OK)
	wantPages(t, 121, 1, api.OK)
	wantPages(t, 257, 2, api.OK)
	wantCell(t, 1, 2, 10, api.OK)
	wantWhich(t, 1, 10, 2, true)
}

// P12.1

func TestOfAtEdges(t *testing.T) {
	wantOf(t, 0, 0, false)
	wantOf(t, 1, 0, true)
	for class, most := range []int{16, 24, 40, 56, 80} {
		wantOf(t, most-1, class, true)
		wantOf(t, most, class, true)
		wantOf(t, most+1, class+1, true)
	}
	wantOf(t, 119, 5, true)
	wantOf(t, 120, 5, true)
	wantOf(t, 121, 0, false)
	wantOf(t, lastLen, 0, false)
	wantOf(t, lastLen+1, 0, false)
}

func TestOfOfEachNumber(t *testing.T) {
	for n := 1; n <= lastSmall; n++ {
		least := 0
		for sizes()[least]*8 < n {
			least++
		}
		wantOf(t, n, least, true)
	}
	for n := lastSmall + 1; n <= 2*lastLen; n++ {
		wantOf(t, n, 0, false)
	}
	for _, n := range edges() {
		wantOf(t, n, 0, false)
	}
}

func TestWords(t *testing.T) {
	for class, size := range sizes() {
		wantWords(t, class, size, api.OK)
	}
	for _, class := range badClasses() {
		wantWords(t, class, 0, api.ErrArg)
	}
}

func TestCells(t *testing.T) {
	for class, cells := range []int{14, 9, 5, 4, 2, 1} {
		wantCells(t, class, cells, api.OK)
	}
	for class, size := range sizes() {
		wantCells(t, class, len(begins(size)), api.OK)
	}
	for _, class := range badClasses() {
		wantCells(t, class, 0, api.ErrArg)
	}
}

// P12.2

func TestPagesAtEdges(t *testing.T) {
	wantPages(t, 0, 0, api.ErrArg)
	wantPages(t, 1, 0, api.ErrArg)
	wantPages(t, 120, 0, api.ErrArg)
	wantPages(t, 121, 1, api.OK)
	wantPages(t, 255, 1, api.OK)
	wantPages(t, 256, 1, api.OK)
	wantPages(t, 257, 2, api.OK)
	wantPages(t, 512, 2, api.OK)
	wantPages(t, 513, 3, api.OK)
	wantPages(t, 1792, 7, api.OK)
	wantPages(t, 1793, 8, api.OK)
	wantPages(t, lastLen, 8, api.OK)
	wantPages(t, lastLen+1, 0, api.ErrArg)
}

func TestPagesOfEachNumber(t *testing.T) {
	for n := 0; n <= lastSmall; n++ {
		wantPages(t, n, 0, api.ErrArg)
	}
	for n := lastSmall + 1; n <= lastLen; n++ {
		pages := 1
		for pages*page*8 < n {
			pages++
		}
		wantPages(t, n, pages, api.OK)
	}
	for n := lastLen + 1; n <= 2*lastLen; n++ {
		wantPages(t, n, 0, api.ErrArg)
	}
	for _, n := range edges() {
		wantPages(t, n, 0, api.ErrArg)
	}
}

// P12.3

func TestCellAtEdges(t *testing.T) {
	last := []int{13, 8, 4, 3, 1, 0}
	words := []int{30, 28, 24, 25, 14, 4}
	for class := range last {
		wantCell(t, class, -1, 0, api.ErrArg)
		wantCell(t, class, 0, 4, api.OK)
		wantCell(t, class, last[class], words[class], api.OK)
		wantCell(t, class, last[class]+1, 0, api.ErrArg)
	}
}

func TestCellOfEachNumber(t *testing.T) {
	for class, size := range sizes() {
		l := begins(size)
		for k := range 3 * page {
			if k < len(l) {
				wantCell(t, class, k, l[k], api.OK)
			} else {
				wantCell(t, class, k, 0, api.ErrArg)
			}
		}
		for _, k := range edges() {
			wantCell(t, class, k, 0, api.ErrArg)
		}
	}
}

func TestCellOfNoClass(t *testing.T) {
	for _, class := range badClasses() {
		for k := -3; k <= page; k++ {
			wantCell(t, class, k, 0, api.ErrArg)
		}
		for _, k := range edges() {
			wantCell(t, class, k, 0, api.ErrArg)
		}
	}
}

// Of classes 0 and 3 one more would begin past the page; of the others within it, but the page's end would cut it off.
func TestWhichBehindTheLast(t *testing.T) {
	for class, next := range []int{32, 31, 29, 32, 24, 19} {
		wantWhich(t, class, next, 0, false)
	}
}

func TestWhichAtEachWord(t *testing.T) {
	for class, size := range sizes() {
		cells := map[int]int{}
		for k, at := range begins(size) {
			cells[at] = k
		}
		for offset := -3 * page; offset <= 3*page; offset++ {
			k, is := cells[offset]
			wantWhich(t, class, offset, k, is)
		}
		for _, offset := range edges() {
			wantWhich(t, class, offset, 0, false)
		}
	}
}

func TestWhichInTheHead(t *testing.T) {
	for class := range sizes() {
		for offset := -1; offset < head; offset++ {
			wantWhich(t, class, offset, 0, false)
		}
		wantWhich(t, class, head, 0, true)
	}
}

func TestWhichOfNoClass(t *testing.T) {
	for _, class := range badClasses() {
		for offset := -3; offset <= page; offset++ {
			wantWhich(t, class, offset, 0, false)
		}
		for _, offset := range edges() {
			wantWhich(t, class, offset, 0, false)
		}
	}
}
