package pages

import (
	"math"
	"slices"
	"testing"

	"joist/api"
)

// P13.2

func span(at, size int) api.Span { return api.Span{At: at, Size: size} }

// rows are the longest rows of free pages, by the tests' own reckoning: each row that may be, if all its pages are free, and none beside it.
func rows(kinds []int) []api.Span {
	isFree := func(p int) bool { return p >= 0 && p < len(kinds) && kinds[p] == free }
	var l []api.Span
	for at := range kinds {
		if !isFree(at) || isFree(at-1) {
			continue
		}
		end := at
		for isFree(end) {
			end++
		}
		l = append(l, span(at, end-at))
	}
	return l
}

// wantBest is the least row that is long enough: it looks for rows of n, then of one more, and so on.
func wantBest(kinds []int, n int) (int, bool) {
	if n < 1 {
		return 0, false
	}
	l := rows(kinds)
	for size := n; size <= len(kinds); size++ {
		for _, s := range l {
			if s.Size == size {
				return s.At, true
			}
		}
	}
	return 0, false
}

func lookRuns(t *testing.T, kinds []int) {
	t.Helper()
	if l := Runs(kinds); !slices.Equal(l, rows(kinds)) {
		t.Fatalf("Runs(%v) = %v; want %v", kinds, l, rows(kinds))
	}
}

func lookBest(t *testing.T, kinds []int, n int) {
	t.Helper()
	want, there := wantBest(kinds, n)
	if at, is := Best(kinds, n); at != want || is != there {
		t.Fatalf("Best(%v, %d) = %d, %v; want %d, %v", kinds, n, at, is, want, there)
	}
}

// lookRows holds Runs and Best against the tests' own reckoning, Best at each number of pages, and around.
func lookRows(t *testing.T, kinds []int) {
	t.Helper()
	lookRuns(t, kinds)
	for n := -2; n <= len(kinds)+2; n++ {
		lookBest(t, kinds, n)
	}
	for _, n := range append(far(), 1<<32+2) {
		if at, is := Best(kinds, n); at != 0 || is {
			t.Fatalf("Best(%v, %d) = %d, %v", kinds, n, at, is)
		}
	}
}

func TestRunsExamples(t *testing.T) {
	for _, one := range []struct {
		kinds []int
		want  []api.Span
	}{
		{nil, nil},
		{[]int{}, nil},
		{[]int{free}, []api.Span{{At: 0, Size: 1}}},
		{[]int{0}, nil},
		{[]int{free, free, free}, []api.Span{{At: 0, Size: 3}}},
		{[]int{0, 1, 2, 3, 4, 5, first, more}, nil},
		{[]int{free, free, 0, 0}, []api.Span{{At: 0, Size: 2}}},
		{[]int{0, free, free, 5}, []api.Span{{At: 1, Size: 2}}},
		{[]int{first, more, free}, []api.Span{{At: 2, Size: 1}}},
		{[]int{free, 0, free, free, first, more, free}, []api.Span{{At: 0, Size: 1}, {At: 2, Size: 2}, {At: 6, Size: 1}}},
		{[]int{free, 8, free, -2, free, math.MaxInt, free, math.MinInt, free}, []api.Span{{At: 0, Size: 1}, {At: 2, Size: 1}, {At: 4, Size: 1}, {At: 6, Size: 1}, {At: 8, Size: 1}}},
	} {
		if l := Runs(one.kinds); !slices.Equal(l, one.want) {
			t.Errorf("Runs(%v) = %v; want %v", one.kinds, l, one.want)
		}
		lookRows(t, one.kinds)
	}
}

func TestBestExamples(t *testing.T) {
	kinds := []int{free, free, free, 0, free, 0, free, free, 1, free, first, free, free, free, free, more, free, free}
	for n, want := range []int{0, 4, 6, 0, 11} {
		if at, is := Best(kinds, n); at != want || is != (n > 0) {
			t.Errorf("Best(%d) = %d, %v; want %d", n, at, is, want)
		}
	}
	for _, n := range []int{5, 6, 64, 65, math.MaxInt, 0, -1, math.MinInt} {
		if at, is := Best(kinds, n); at != 0 || is {
			t.Errorf("Best(%d) = %d, %v", n, at, is)
		}
	}
}

// TestBestOfAlikeRows: the first one of those, wherever lesser and greater ones stand.
func TestBestOfAlikeRows(t *testing.T) {
	for _, one := range []struct {
		kinds []int
		n     int
		at    int
	}{
		{[]int{free, 0, free, 0, free}, 1, 0},
		{[]int{0, free, 0, free}, 1, 1},
		{[]int{free, 0, free, free, 0, free, free}, 2, 2},
		{[]int{free, free, free, 0, free, free, 0, free, free}, 1, 4},
		{[]int{free, free, free, 0, free, free, 0, free, free}, 3, 0},
		{[]int{free, free, 0, free, free, 0, free}, 2, 0},
		{[]int{free, free, 0, free, free, 0, free}, 1, 6},
	} {
		if at, is := Best(one.kinds, one.n); at != one.at || !is {
			t.Errorf("Best(%v, %d) = %d, %v; want %d", one.kinds, one.n, at, is, one.at)
		}
	}
}

// TestAllShortRows: each row of up to 12 pages, free and not.
func TestAllShortRows(t *testing.T) {
	for size := range 13 {
		for bits := range 1 << size {
			kinds := make([]int, size)
			for p := range kinds {
				kinds[p] = free
				if bits>>p&1 == 1 {
					kinds[p] = (bits + p) % 8
				}
			}
			lookRuns(t, kinds)
			for n := -1; n <= size+1; n++ {
				lookBest(t, kinds, n)
			}
		}
	}
}

// TestKindsOfNoPage: only PageFree is free.
func TestKindsOfNoPage(t *testing.T) {
	for _, kind := range append(far(), 0, 1, 5, 6, 7, 8, 9, 1<<32-1, 1<<31-1) {
		if kind == free {
			continue
		}
		lookRows(t, []int{kind})
		lookRows(t, []int{kind, free, kind})
		lookRows(t, []int{free, kind, free, free})
		lookRows(t, slices.Repeat([]int{kind}, 70))
	}
}

// TestMoreKindsThanPages: rows of any length have runs.
func TestMoreKindsThanPages(t *testing.T) {
	for _, size := range []int{63, 64, 65, 100, 300} {
		for _, every := range []int{1, 2, 3, 7, 1000} {
			kinds := slices.Repeat([]int{free}, size)
			for p := every - 1; p < size; p += every {
				kinds[p] = p % 8
			}
			lookRows(t, kinds)
		}
	}
	all := slices.Repeat([]int{free}, 200000)
	if l := Runs(all); !slices.Equal(l, []api.Span{{At: 0, Size: 200000}}) {
		t.Errorf("Runs of free pages: %v", l)
	}
	all[100] = first
	if at, is := Best(all, 101); at != 101 || !is {
		t.Errorf("Best = %d, %v", at, is)
	}
}

func TestRowsOfRolledHeaps(t *testing.T) {
	for _, h := range rolledHeaps(31, 100) {
		kinds, _ := Kinds(h.pages, h.l)
		lookRows(t, kinds)
	}
}
