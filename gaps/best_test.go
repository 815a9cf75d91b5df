package gaps

import (
	"math"
	"slices"
	"testing"

	"joist/api"
)

// P10.2: Best

// fitting is the tests' own choice: those that are no better are struck out one by one.
func fitting(l []api.Span, size int) (api.Span, bool) {
	l = slices.DeleteFunc(slices.Clone(l), func(s api.Span) bool { return s.Size < size })
	if len(l) == 0 {
		return api.Span{}, false
	}
	for _, s := range slices.Clone(l) {
		l = slices.DeleteFunc(l, func(o api.Span) bool { return o.Size > s.Size })
	}
	for _, s := range slices.Clone(l) {
		l = slices.DeleteFunc(l, func(o api.Span) bool { return o.At > s.At })
	}
	return l[0], true
}

func sameBest(t *testing.T, l []api.Span, size int) {
	t.Helper()
	want, found := fitting(l, size)
	if s, is := Best(l, size); s != want || is != found {
		t.Fatalf("Best(%v, %d) = %v, %v; want %v, %v", cut(l), size, s, is, want, found)
	}
}

func TestBestExamples(t *testing.T) {
	l := row(0, 4, 12, 20)
	for _, one := range []struct {
		size int
		want api.Span
		is   bool
	}{
		{4, span(0, 4), true}, {5, span(12, 20), true}, {20, span(12, 20), true}, {21, api.Span{}, false},
		{3, span(0, 4), true}, {0, span(0, 4), true}, {-1, span(0, 4), true}, {math.MinInt, span(0, 4), true}, {math.MaxInt, api.Span{}, false},
	} {
		if s, is := Best(l, one.size); s != one.want || is != one.is {
			t.Errorf("Best(%v, %d) = %v, %v; want %v, %v", l, one.size, s, is, one.want, one.is)
		}
	}
}

// TestBestOfAnySpans: none of them must be a gap of a heap.
func TestBestOfAnySpans(t *testing.T) {
	for _, one := range []struct {
		l    []api.Span
		size int
		want api.Span
	}{
		{row(7, 0), 0, span(7, 0)},
		{row(0, 0), 0, span(0, 0)},
		{row(7, 0, 3, 5), 0, span(7, 0)},
		{row(7, 0, 3, 5), 1, span(3, 5)},
		{row(7, -3, 3, 5), -3, span(7, -3)},
		{row(7, -3, 3, 5), -2, span(3, 5)},
		{row(7, -3, 7, -5), -5, span(7, -5)},
		{row(7, -3, 7, -5), -4, span(7, -3)},
		{row(7, -3, 7, math.MinInt), math.MinInt, span(7, math.MinInt)},
		{row(-9, 5, -8, 5, 3, 5), 5, span(-9, 5)},
		{row(math.MaxInt, 5, math.MinInt, 5, 0, 5), 5, span(math.MinInt, 5)},
		{row(1, math.MaxInt, 2, math.MaxInt-1), 1, span(2, math.MaxInt-1)},
		{row(1, math.MaxInt), math.MaxInt, span(1, math.MaxInt)},
		{row(5, math.MinInt, 9, math.MaxInt), 0, span(9, math.MaxInt)},
		{row(0, 20, 20, 12, 40, 12, 60, 16), 9, span(20, 12)},
		{row(60, 16, 40, 12, 20, 12, 0, 20), 9, span(20, 12)},
		{row(40, 12, 20, 12, 40, 12, 20, 12), 12, span(20, 12)},
	} {
		if s, is := Best(one.l, one.size); s != one.want || !is {
			t.Errorf("Best(%v, %d) = %v, %v; want %v", one.l, one.size, s, is, one.want)
		}
		sameBest(t, one.l, one.size)
	}
	for _, l := range [][]api.Span{row(0, 0), row(7, -1, 3, 0), row(1, math.MinInt)} {
		if s, is := Best(l, 1); s != (api.Span{}) || is {
			t.Errorf("Best(%v, 1) = %v, %v", l, s, is)
		}
	}
}

// TestBestOfTwo: each two of all edges, asked for each size that is near one of them.
func TestBestOfTwo(t *testing.T) {
	numbers := []int{math.MinInt, math.MinInt + 1, -4, -1, 0, 1, 4, 5, math.MaxInt - 1, math.MaxInt}
	var l []api.Span
	for _, at := range numbers {
		for _, size := range numbers {
			l = append(l, span(at, size))
		}
	}
	for _, a := range l {
		for _, b := range l {
			for _, size := range numbers {
				sameBest(t, []api.Span{a, b}, size)
			}
		}
	}
}

// TestBestInAnyOrder: what is best hangs on no order.
func TestBestInAnyOrder(t *testing.T) {
	for _, l := range [][]api.Span{row(0, 4, 8, 4, 16, 8, 32, 8), row(3, 5, -3, 5, 3, 5, 0, 7), row(1, 0, 0, 0, -1, -1, 2, 9)} {
		for size := -2; size <= 10; size++ {
			want, found := fitting(l, size)
			for n := range 4 * 4 * 4 * 4 {
				order := []int{n % 4, n / 4 % 4, n / 16 % 4, n / 64}
				if !slices.Equal(slices.Sorted(slices.Values(order)), []int{0, 1, 2, 3}) {
					continue
				}
				turned := []api.Span{l[order[0]], l[order[1]], l[order[2]], l[order[3]]}
				if s, is := Best(turned, size); s != want || is != found {
					t.Errorf("Best(%v, %d) = %v, %v; want %v, %v", turned, size, s, is, want, found)
				}
			}
		}
	}
}

func TestBestOfRolledSpans(t *testing.T) {
	roll := dice(3)
	for range 3000 {
		l := make([]api.Span, roll(30))
		for i := range l {
			l[i] = span(roll(9)-4, roll(12)-3)
		}
		for size := -4; size <= 10; size++ {
			sameBest(t, l, size)
		}
	}
}

// TestBestOfGaps: what a heap has no room for is told, and what it has is one of its gaps.
func TestBestOfGaps(t *testing.T) {
	for _, one := range rolledRows(4, 60) {
		l, _ := Gaps(one.from, one.to, one.used)
		for size := 1; size <= 300; size++ {
			sameBest(t, l, size)
		}
		sameBest(t, l, words)
		sameBest(t, l, words+1)
	}
}
