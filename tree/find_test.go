package tree

import (
	"math"
	"testing"

	"joist/api"
)

// P14.4

func finds(t *testing.T, pages int, b []byte, page int, want api.Extent) {
	t.Helper()
	if x, is := Find(pages, b, page); !is || x != want {
		t.Fatalf("Find(%d, %.2000v, %d) = %v, %v; want %v", pages, b, page, x, is, want)
	}
}

func notFound(t *testing.T, pages int, b []byte, page int) {
	t.Helper()
	if x, is := Find(pages, b, page); is || x != (api.Extent{}) {
		t.Fatalf("Find(%d, %.2000v, %d) = %v, %v; want zero, false", pages, b, page, x, is)
	}
}

// farOff are pages that no heap has. Those past 2^32 have one in their lower half.
func farOff() []int {
	return []int{math.MinInt, math.MinInt + 1, math.MinInt / 2, -1 << 32, -1<<32 + 1, -64, -2, -1, 64, 65, 1 << 31, 1 << 32, 1<<32 + 1, 1<<62 + 1, math.MaxInt - 1, math.MaxInt}
}

func TestFindByHand(t *testing.T) {
	b := nodes([]int{7, 0, 5, 1, 10, 3, 4})
	for page, want := range row(0, 1, 1, 1, 2, 2, 1, 2, 2, 3, 1, 0) {
		finds(t, 4, b, page, want)
	}
	notFound(t, 4, b, 4)
	_, b = twoLevels()
	for page, want := range row(0, 1, 1, 1, 1, 1, 2, 2, 2, 2, 2, 2, 4, 1, 0, 5, 1, 1, 6, 1, 1, 7, 1, 2, 8, 2, 0, 8, 2, 0) {
		finds(t, 10, b, page, want)
	}
	notFound(t, 10, b, 10)
	_, b = threeLevels()
	for page := range 50 {
		finds(t, 50, b, page, api.Extent{At: page, Size: 1, Use: 1})
	}
	notFound(t, 50, b, 50)
	b = nodes([]int{3, 0, 258}, nil)
	for page := range 64 {
		finds(t, 64, b, page, api.Extent{Size: 64, Use: 2})
	}
	notFound(t, 64, b, 64)
	notFound(t, 0, nodes([]int{1}), 0)
}

// TestFindOfEachCount: each page of each extent, the first and the last one among them, and pages that are none.
func TestFindOfEachCount(t *testing.T) {
	for n := range mostPages + 1 {
		pages, l := countRow(n)
		for _, room := range []int{int(wantNodes(n)), mostNodes} {
			b := wantBytes(room, l)
			for _, x := range l {
				for page := x.At; page < x.At+x.Size; page++ {
					finds(t, pages, b, page, x)
				}
			}
			for _, page := range append(farOff(), pages, pages+1) {
				notFound(t, pages, b, page)
			}
		}
	}
}

// TestFindOfWrongBytes: no page is found, not even one that the way from the root down would lead to.
func TestFindOfWrongBytes(t *testing.T) {
	for _, n := range counts() {
		pages, l := countRow(n)
		need := int(wantNodes(n))
		b := wantBytes(mostNodes+1, l)
		for page := -1; page <= pages; page++ {
			notFound(t, pages, b, page)
			notFound(t, pages, b[:need*nodeSize-1], page)
			notFound(t, pages, b[:need*nodeSize+1], page)
			notFound(t, pages, b[:(need-1)*nodeSize], page)
			notFound(t, pages+1, b[:need*nodeSize], page)
			notFound(t, pages-1, b[:need*nodeSize], page)
		}
		for _, at := range []int{15 * 8, need*nodeSize - 8, mostNodes*nodeSize - 1} {
			b[at]++
			for page := range pages {
				notFound(t, pages, b[:mostNodes*nodeSize], page)
			}
			b[at]--
		}
		for _, far := range farPages() {
			for _, page := range append(farOff(), 0, 1) {
				notFound(t, far, b[:mostNodes*nodeSize], page)
			}
		}
	}
}

// P14.7

// walk goes from the root down, by the last pair whose first number is at most the page: the extent it comes to, and with how many nodes.
func walk(b []byte, page int) (api.Extent, int) {
	number := 0
	for steps := 1; ; steps++ {
		at := number * 16
		one, two := 0, 0
		for k := range int(word(b, at) / 2) {
			if int(word(b, at+1+2*k)) <= page {
				one, two = int(word(b, at+1+2*k)), int(word(b, at+2+2*k))
			}
		}
		if word(b, at)%2 == 1 {
			return api.Extent{At: one, Size: two / 4, Use: two % 4}, steps
		}
		number = two
	}
}

func lookWalk(t *testing.T, pages int, l []api.Extent) {
	t.Helper()
	levels := len(levelCounts(len(l)))
	b, e := Write(pages, mostNodes, l)
	if e != api.OK {
		t.Fatalf("Write(%d, %d, %v): %v", pages, mostNodes, l, e)
	}
	for page := range pages {
		x, steps := walk(b, page)
		if steps != levels || page < x.At || page >= x.At+x.Size {
			t.Fatalf("%v: page %d leads to %v in %d steps, of %d levels", l, page, x, steps, levels)
		}
		finds(t, pages, b, page, x)
	}
}

func TestTheWayDown(t *testing.T) {
	for n, levels := range map[int]int{1: 1, 7: 1, 8: 2, 49: 2, 50: 3, 64: 3} {
		if got := len(levelCounts(n)); got != levels {
			t.Errorf("%d extents: %d levels", n, got)
		}
	}
	for n := range mostPages + 1 {
		pages, l := countRow(n)
		lookWalk(t, pages, l)
	}
	roll := dice(145)
	for pages := range mostPages + 1 {
		for range 10 {
			l, _ := wantFrom(rolledKinds(roll, pages))
			lookWalk(t, pages, l)
		}
	}
}
