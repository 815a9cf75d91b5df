package class

import (
	"testing"

	"joist/api"
)

// laid are the words where a class's cells begin, and how many each has, as the calls tell it.
func laid(t *testing.T, class int) ([]int, int) {
	t.Helper()
	cells, first := Cells(class)
	size, second := Words(class)
	if first != api.OK || second != api.OK || cells < 1 || size < 1 {
		t.Fatalf("class %d: %d cells, error %d, of %d words, error %d", class, cells, first, size, second)
	}
	var l []int
	for k := range cells {
		at, e := Cell(class, k)
		if e != api.OK {
			t.Fatalf("Cell(%d, %d): error %d", class, k, e)
		}
		l = append(l, at)
	}
	return l, size
}

// P12.4

func TestCellsLieInTheirPage(t *testing.T) {
	for class := range lastClass + 1 {
		l, size := laid(t, class)
		end := head
		for k, at := range l {
			if at != end {
				t.Errorf("class %d: cell %d begins at %d, not at %d", class, k, at, end)
			}
			end = at + size
		}
		if end > page {
			t.Errorf("class %d: the cells end at %d", class, end)
		}
		if end+size <= page {
			t.Errorf("class %d: the cells end at %d, where there is room for one more", class, end)
		}
	}
}

func TestCellsHoldTheirObjects(t *testing.T) {
	for n := 1; n <= lastSmall; n++ {
		class, is := Of(n)
		if !is {
			t.Errorf("Of(%d): none", n)
			continue
		}
		if size, e := Words(class); e != api.OK || size*8 < n {
			t.Errorf("%d bytes lie in a cell of %d words, error %d", n, size, e)
		}
		for less := range class {
			if size, e := Words(less); e != api.OK || size*8 >= n {
				t.Errorf("%d bytes lie in class %d, but class %d has %d words, error %d", n, class, less, size, e)
			}
		}
	}
}

func TestSmallOrLargeOrNeither(t *testing.T) {
	for n := -lastLen; n <= 2*lastLen; n++ {
		_, small := Of(n)
		pages, e := Pages(n)
		if small != (n >= 1 && n <= lastSmall) || (e == api.OK) != (n > lastSmall && n <= lastLen) {
			t.Errorf("%d bytes: small %v, %d pages, error %d", n, small, pages, e)
		}
		if e == api.OK && (pages*page*8 < n || (pages-1)*page*8 >= n) {
			t.Errorf("%d bytes lie in %d pages", n, pages)
		}
	}
}

// P12.5

func TestWhichUndoesCell(t *testing.T) {
	for class := range lastClass + 1 {
		l, _ := laid(t, class)
		for k, at := range l {
			wantWhich(t, class, at, k, true)
		}
	}
}

func TestCellUndoesWhich(t *testing.T) {
	for class := range lastClass + 1 {
		found := 0
		for offset := -page; offset <= 2*page; offset++ {
			if k, is := Which(class, offset); is {
				wantCell(t, class, k, offset, api.OK)
				found++
			}
		}
		if l, _ := laid(t, class); found != len(l) {
			t.Errorf("class %d: %d words begin cells, not %d", class, found, len(l))
		}
	}
}

// W2

func TestSameEachTime(t *testing.T) {
	for range 3 {
		TestExamples(t)
	}
}
