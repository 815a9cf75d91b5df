package pages

import (
	"math"
	"slices"
	"testing"

	"joist/api"
)

// P13.3

// wantPlace is where one goes, by the tests' own reckoning.
func wantPlace(pages int, l []api.Object, n int) (int, bool) {
	kinds, right := reckon(pages, l)
	if !right || n < 1 || n > lastLen {
		return 0, false
	}
	if n > lastSmall {
		p, is := wantBest(kinds, (n+255)/256)
		return p * words, is
	}
	class := 0
	for mosts[class] < n {
		class++
	}
	taken := map[int]int{}
	for _, o := range l {
		taken[o.At]++
	}
	for _, kind := range []int{class, free} {
		for p, have := range kinds {
			for _, w := range begins[class] {
				if have == kind && taken[p*words+w] == 0 {
					return p*words + w, true
				}
			}
		}
	}
	return 0, false
}

func lookPlace(t *testing.T, pages int, l []api.Object, n int) {
	t.Helper()
	want, there := wantPlace(pages, l, n)
	if at, is := Place(pages, l, n); at != want || is != there {
		t.Fatalf("Place(%d, %v, %d) = %d, %v; want %d, %v", pages, cut(l), n, at, is, want, there)
	}
}

// lookPlaces holds Place against the tests' own reckoning, at both ends of each class and of each number of pages.
func lookPlaces(t *testing.T, pages int, l []api.Object) {
	t.Helper()
	for _, n := range lens() {
		lookPlace(t, pages, l, n)
	}
}

func goesTo(t *testing.T, pages int, l []api.Object, n, want int) {
	t.Helper()
	if at, is := Place(pages, l, n); at != want || !is {
		t.Errorf("Place(%d, %v, %d) = %d, %v; want %d", pages, cut(l), n, at, is, want)
	}
}

func noRoom(t *testing.T, pages int, l []api.Object, n int) {
	t.Helper()
	if at, is := Place(pages, l, n); at != 0 || is {
		t.Errorf("Place(%d, %v, %d) = %d, %v; want 0, false", pages, cut(l), n, at, is)
	}
}

func TestPlaceExamples(t *testing.T) {
	l := row(4, 16, 32, 300)
	goesTo(t, 4, l, 8, 6)
	goesTo(t, 4, l, 120, 100)
	goesTo(t, 4, l, 200, 96)
	goesTo(t, 4, l, 256, 96)
	noRoom(t, 4, l, 257)
	noRoom(t, 4, l, 300)
	noRoom(t, 3, l, 120)
	goesTo(t, 3, l, 16, 6)
	noRoom(t, 3, l, 17)
	goesTo(t, 5, l, 300, 96)
}

func TestPlaceIntoAnEmptyHeap(t *testing.T) {
	for _, n := range lens() {
		noRoom(t, 0, nil, n)
		for _, pages := range []int{1, 7, 8, mostPages} {
			switch {
			case n <= lastSmall:
				goesTo(t, pages, nil, n, 4)
			case (n+255)/256 <= pages:
				goesTo(t, pages, nil, n, 0)
			default:
				noRoom(t, pages, nil, n)
			}
		}
	}
}

// TestPlaceIntoTheOneFreeCell: in front, in the middle, at the end, in the first page and in the last one.
func TestPlaceIntoTheOneFreeCell(t *testing.T) {
	for class, cells := range begins {
		for k, w := range cells {
			for _, p := range []int{0, 1, 63} {
				l := slices.Delete(fullOf(mostPages, class), p*len(cells)+k, p*len(cells)+k+1)
				goesTo(t, mostPages, l, leasts[class], p*words+w)
				goesTo(t, mostPages, l, mosts[class], p*words+w)
				for other := range 6 {
					lookPlace(t, mostPages, l, mosts[other])
				}
				lookPlace(t, mostPages, l, 121)
			}
		}
	}
}

// TestPlaceIntoTheFirstFreeCell: of two free cells of a page the first one; of two slabs the first one that has any, a page that is free or not ahead of it.
func TestPlaceIntoTheFirstFreeCell(t *testing.T) {
	for class, cells := range begins[:5] {
		l := slabOf(1, class)
		for a := range cells {
			for b := range a {
				two := slices.Delete(slices.Delete(slices.Clone(l), a, a+1), b, b+1)
				if len(two) > 0 {
					goesTo(t, 2, two, mosts[class], words+cells[b])
				}
			}
		}
		one := l[len(l)-1:]
		goesTo(t, 3, one, mosts[class], words+4)
		goesTo(t, 3, append(one, slabOf(0, class)[1:]...), mosts[class], 4)
		goesTo(t, 3, append(one, slabOf(0, class)...), mosts[class], words+4)
		goesTo(t, 3, append(one, row(64+4, mosts[class])...), mosts[class], words+4)
		goesTo(t, 3, append(l, row(64+4, mosts[class])...), mosts[class], 64+cells[1])
	}
}

func TestPlaceIntoTheSecondSlab(t *testing.T) {
	for class, cells := range begins {
		full := slabOf(0, class)
		goesTo(t, 2, full, mosts[class], words+4)
		goesTo(t, 3, append(full, row(words, 121)...), mosts[class], 64+4)
		noRoom(t, 1, full, mosts[class])
		noRoom(t, 2, append(full, row(words, 121)...), mosts[class])
		second := append(slabOf(0, class), row(64+4, mosts[class])...)
		if len(cells) > 1 {
			goesTo(t, 4, second, mosts[class], 64+cells[1])
		} else {
			goesTo(t, 4, second, mosts[class], words+4)
		}
	}
}

// TestPlaceIntoTheFirstFreePage: not that of the shortest row, which is where a large one goes.
func TestPlaceIntoTheFirstFreePage(t *testing.T) {
	l := row(0, 121, 96, 121)
	goesTo(t, 5, l, 16, 36)
	goesTo(t, 5, l, 120, 36)
	goesTo(t, 5, l, 121, 128)
	goesTo(t, 5, l, 256, 128)
	goesTo(t, 5, l, 257, 32)
	goesTo(t, 6, l, 121, 32)
	goesTo(t, 6, l, 257, 32)
	noRoom(t, 5, l, 513)
	goesTo(t, 7, l, 513, 128)
	goesTo(t, 7, l, 512, 32)
}

// TestPlaceAtTheEnd: the last page, the last pages.
func TestPlaceAtTheEnd(t *testing.T) {
	for class := range 6 {
		l := fullOf(63, class)
		for _, n := range mosts {
			goesTo(t, mostPages, l, n, 63*words+4)
		}
		goesTo(t, mostPages, l, 121, 63*words)
		noRoom(t, mostPages, l, 257)
		goesTo(t, mostPages, fullOf(56, class), lastLen, 56*words)
		noRoom(t, mostPages, fullOf(57, class), lastLen)
	}
}

func TestPlaceWhereThereIsNoRoom(t *testing.T) {
	for class := range 6 {
		for _, pages := range []int{1, 2, mostPages} {
			for _, n := range lens() {
				noRoom(t, pages, fullOf(pages, class), n)
			}
		}
	}
	for _, n := range lens() {
		noRoom(t, mostPages, largeOnes(64, 121, 1), n)
		noRoom(t, mostPages, largeOnes(8, lastLen, 8), n)
	}
}

func TestPlaceOfEachLen(t *testing.T) {
	for _, h := range []rolled{{mostPages, nil}, {4, row(4, 16, 32, 300)}, {9, row(4, 1, 36, 17, 68, 25, 100, 41, 132, 57, 164, 81)}} {
		for n := -300; n <= 2*lastLen; n++ {
			lookPlace(t, h.pages, h.l, n)
		}
	}
}

func TestPlaceOfNoSuchLen(t *testing.T) {
	for _, n := range append(far(), 0, 2050, 4096) {
		for _, h := range rolledHeaps(41, 5) {
			noRoom(t, h.pages, h.l, n)
		}
		noRoom(t, -1, nil, n)
		noRoom(t, 4, row(4, 16, 4, 16), n)
	}
}

func TestPlaceOfNoSuchPages(t *testing.T) {
	for _, pages := range append(far(), 65, 66, 128) {
		for _, n := range lens() {
			noRoom(t, pages, nil, n)
			noRoom(t, pages, row(4, 16), n)
		}
	}
}

func TestPlacesOfRolledHeaps(t *testing.T) {
	for _, h := range rolledHeaps(42, 60) {
		lookPlaces(t, h.pages, h.l)
		lookPlaces(t, h.pages-1, h.l)
	}
}

// P13.4

// wantMates holds the words of each object against those of the page.
func wantMates(pages int, l []api.Object, page int) []int {
	if _, right := reckon(pages, l); !right {
		return nil
	}
	var m []int
	for k, o := range l {
		s, _ := spotOf(pages, o)
		for i := range s.pages {
			if s.first+i == page {
				m = append(m, k)
			}
		}
	}
	return m
}

func lookMates(t *testing.T, pages int, l []api.Object) {
	t.Helper()
	for p := -2; p <= min(pages, mostPages)+2; p++ {
		want := wantMates(pages, l, p)
		if m := Mates(pages, l, p); !slices.Equal(m, want) {
			t.Fatalf("Mates(%d, %v, %d) = %v; want %v", pages, cut(l), p, m, want)
		}
	}
	for _, p := range far() {
		if m := Mates(pages, l, p); len(m) != 0 {
			t.Fatalf("Mates(%d, %v, %d) = %v", pages, cut(l), p, m)
		}
	}
}

func TestMatesExamples(t *testing.T) {
	l := row(4, 16, 32, 300, 10, 16, 100, 120, 6, 1)
	for p, want := range [][]int{{0, 2, 4}, {1}, {1}, {3}, nil, nil} {
		if m := Mates(5, l, p); !slices.Equal(m, want) {
			t.Errorf("Mates(%d) = %v; want %v", p, m, want)
		}
	}
	for _, p := range []int{-1, 5, 6, 64, math.MinInt, math.MaxInt} {
		if m := Mates(5, l, p); len(m) != 0 {
			t.Errorf("Mates(%d) = %v", p, m)
		}
	}
	if m := Mates(4, row(4, 16, 32, 300), 2); !slices.Equal(m, []int{1}) {
		t.Errorf("Mates = %v", m)
	}
}

// TestMatesOfFullHeaps: each page's own ones, rising, also where they stand in the other order.
func TestMatesOfFullHeaps(t *testing.T) {
	for class, cells := range begins {
		l := fullOf(mostPages, class)
		backward := slices.Clone(l)
		slices.Reverse(backward)
		for p := range mostPages {
			var want, other []int
			for k := range cells {
				want = append(want, p*len(cells)+k)
				other = append(other, (63-p)*len(cells)+k)
			}
			if m := Mates(mostPages, l, p); !slices.Equal(m, want) {
				t.Fatalf("class %d: Mates(%d) = %v; want %v", class, p, m, want)
			}
			if m := Mates(mostPages, backward, p); !slices.Equal(m, other) {
				t.Fatalf("class %d, backward: Mates(%d) = %v; want %v", class, p, m, other)
			}
		}
	}
	l := largeOnes(8, lastLen, 8)
	for p := range mostPages {
		if m := Mates(mostPages, l, p); !slices.Equal(m, []int{p / 8}) {
			t.Errorf("Mates(%d) = %v", p, m)
		}
	}
}

func TestMatesOfWrongOnes(t *testing.T) {
	for _, h := range []rolled{
		{4, row(4, 16, 4, 16)}, {4, row(4, 16, 7, 17)}, {4, row(4, 16, 3, 16)}, {1, row(4, 16, 32, 300)}, {2, row(4, 16, 32, 300)}, {0, row(4, 16)},
		{-1, nil}, {-1, row(4, 16)}, {65, row(4, 16)}, {math.MaxInt, row(4, 16)}, {math.MinInt, row(4, 16)}, {4, row(4, 16, -32, 300)}, {4, row(4, 16, 36, 0)},
	} {
		lookMates(t, h.pages, h.l)
		for p := -3; p <= mostPages+3; p++ {
			if m := Mates(h.pages, h.l, p); len(m) != 0 {
				t.Errorf("Mates(%d, %v, %d) = %v", h.pages, h.l, p, m)
			}
		}
	}
}

func TestMatesOfRolledHeaps(t *testing.T) {
	for _, h := range rolledHeaps(43, 15) {
		lookMates(t, h.pages, h.l)
		lookMates(t, h.pages, h.l[:len(h.l)/2])
	}
}

func TestOfNoObjects(t *testing.T) {
	for _, l := range [][]api.Object{nil, {}, row(1, 2, 3, 4)[:0]} {
		for _, pages := range []int{-1, 0, 1, 2, mostPages, mostPages + 1} {
			lookPlaces(t, pages, l)
			lookMates(t, pages, l)
		}
	}
}
