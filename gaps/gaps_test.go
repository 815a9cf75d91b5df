package gaps

import (
	"math"
	"slices"
	"testing"

	"joist/api"
)

// The limits, written out: the tests must not lean on what they hold the package against.
const (
	words   = 2048 // of the greatest heap
	unit    = 4
	lastLen = 2048
)

// dice are numbers without an order that anybody sees, but the same each time.
func dice(seed uint32) func(n int) int {
	return func(n int) int {
		seed = seed*1664525 + 1013904223
		return int(seed>>8) % n
	}
}

// span is one of words.
func span(at, size int) api.Span { return api.Span{At: at, Size: size} }

// row are spans, by their numbers.
func row(numbers ...int) []api.Span {
	var l []api.Span
	for i := 0; i+1 < len(numbers); i += 2 {
		l = append(l, span(numbers[i], numbers[i+1]))
	}
	return l
}

// edges are numbers at the ends of what may be, and at those of all numbers: some of their sums do not fit.
func edges() []int {
	return []int{
		math.MinInt, math.MinInt + 1, math.MinInt + 4, math.MinInt + 8, math.MinInt / 2, math.MinInt/2 - 4, -1 << 32, -words, -8, -5, -4, -3, -2, -1,
		0, 1, 2, 3, 4, 5, 6, 7, 8, 9, 12, 16, 20, 32, 64, 1024, words - 8, words - 5, words - 4, words - 3, words - 2, words - 1,
		words, words + 1, words + 2, words + 3, words + 4, words + 8, 2 * words, 1 << 31, 1 << 32, 1 << 61, 1 << 62, 1<<62 + 4, math.MaxInt - 8, math.MaxInt - 7, math.MaxInt - 4, math.MaxInt - 3, math.MaxInt - 1, math.MaxInt,
	}
}

// heap tells of each word whose it is: a block's number, -1, if it is free, or -2, if it does not lie between from and to. It is the tests' own reckoning, word by word, without a sum that might not fit; false, if blocks are not right.
func heap(from, to int, used []api.Span) ([words]int, bool) {
	var own [words]int
	if from < 0 || to < from || words < to || from&3 != 0 || to&3 != 0 {
		return own, false
	}
	for w := range own {
		own[w] = -2
		if w >= from && w < to {
			own[w] = -1
		}
	}
	last := -1
	for k, s := range used {
		if s.At < 0 || s.At > words || s.Size < 1 || s.Size > words || s.At&3 != 0 || s.Size&3 != 0 || s.At <= last {
			return own, false
		}
		last = s.At
		for w := s.At; w < s.At+s.Size; w++ {
			if w >= words || own[w] != -1 {
				return own, false
			}
			own[w] = k
		}
	}
	return own, true
}

// free are the longest rows of words that are free.
func free(own [words]int) []api.Span {
	var l []api.Span
	for w, whose := range own {
		if whose != -1 {
			continue
		}
		if w == 0 || own[w-1] != -1 {
			l = append(l, span(w, 0))
		}
		l[len(l)-1].Size++
	}
	return l
}

// freeBehind counts the free words from w on.
func freeBehind(own [words]int, w int) int {
	n := 0
	for w+n < words && own[w+n] == -1 {
		n++
	}
	return n
}

// laid are all right rows of blocks between from and to.
func laid(from, to int) [][]api.Span {
	rows := [][]api.Span{nil}
	for at := from; at < to; at += unit {
		for size := unit; size <= to-at; size += unit {
			for _, rest := range laid(at+size, to) {
				rows = append(rows, append(row(at, size), rest...))
			}
		}
	}
	return rows
}

// rollRow is a right row of blocks between from and to, some of them side by side.
func rollRow(roll func(int) int, from, to int) []api.Span {
	var l []api.Span
	most := 1 + roll(40)
	for at := from + unit*roll(3)*roll(most); at < to; {
		size := min(unit*(1+roll(most)), to-at)
		l = append(l, span(at, size))
		at += size + unit*roll(2)*roll(most)
	}
	return l
}

// rolled are right rows with what they lie between.
type rolled struct {
	from, to int
	used     []api.Span
}

func rolledRows(seed uint32, n int) []rolled {
	roll := dice(seed)
	l := make([]rolled, n)
	for i := range l {
		to := unit * roll(words/unit+1)
		from := unit * roll(to/unit+1)
		l[i] = rolled{from, to, rollRow(roll, from, to)}
	}
	return append(l,
		rolled{0, 0, nil}, rolled{words, words, nil}, rolled{0, words, nil}, rolled{0, words, row(0, words)}, rolled{32, 32, nil},
		rolled{0, words, units(0, words, unit)}, rolled{0, words, units(0, words, 2*unit)}, rolled{0, words, units(unit, words, 2*unit)}, rolled{words - unit, words, row(words-unit, unit)},
	)
}

// units are blocks of one Unit, so far from each other.
func units(from, to, step int) []api.Span {
	var l []api.Span
	for at := from; at < to; at += step {
		l = append(l, span(at, unit))
	}
	return l
}

// cut is what a test's message shows of a row.
func cut(l []api.Span) []api.Span { return l[:min(len(l), 12)] }

// look holds Right, Gaps and Behind against the tests' own reckoning.
func look(t *testing.T, from, to int, used []api.Span) bool {
	t.Helper()
	own, right := heap(from, to, used)
	if is := Right(from, to, used); is != right {
		t.Fatalf("Right(%d, %d, %v) = %v", from, to, cut(used), is)
	}
	if !right {
		refused(t, from, to, used)
		return false
	}
	if l, e := Gaps(from, to, used); e != api.OK || !slices.Equal(l, free(own)) {
		t.Fatalf("Gaps(%d, %d, %v) = %v, %v; want %v", from, to, cut(used), cut(l), e, cut(free(own)))
	}
	for k, s := range used {
		want := freeBehind(own, s.At+s.Size)
		if n, e := Behind(from, to, used, k); n != want || e != api.OK {
			t.Fatalf("Behind(%d, %d, %v, %d) = %d, %v; want %d", from, to, cut(used), k, n, e, want)
		}
	}
	for _, k := range []int{math.MinInt, -len(used), -1, len(used), len(used) + 1, math.MaxInt} {
		if k != 0 || len(used) == 0 {
			behindRefused(t, from, to, used, k)
		}
	}
	return true
}

func behindRefused(t *testing.T, from, to int, used []api.Span, k int) {
	t.Helper()
	if n, e := Behind(from, to, used, k); n != 0 || e != api.ErrArg {
		t.Fatalf("Behind(%d, %d, %v, %d) = %d, %v; want 0, ErrArg", from, to, cut(used), k, n, e)
	}
}

func refused(t *testing.T, from, to int, used []api.Span) {
	t.Helper()
	if Right(from, to, used) {
		t.Fatalf("Right(%d, %d, %v)", from, to, cut(used))
	}
	if l, e := Gaps(from, to, used); len(l) != 0 || e != api.ErrArg {
		t.Fatalf("Gaps(%d, %d, %v) = %v, %v; want none, ErrArg", from, to, cut(used), cut(l), e)
	}
	for _, k := range []int{-1, 0, len(used) / 2, len(used) - 1, len(used), len(used) + 1} {
		behindRefused(t, from, to, used, k)
	}
}

// P10.1: Need

func TestNeedExamples(t *testing.T) {
	for n, want := range map[int]int{1: 4, 15: 4, 16: 4, 17: 8, 48: 8, 49: 12, 80: 12, 81: 16, 2032: 256, 2033: 260, 2047: 260, lastLen: 260} {
		if got, e := Need(n); got != want || e != api.OK {
			t.Errorf("Need(%d) = %d, %v; want %d", n, got, e, want)
		}
	}
}

// TestNeedOfAll: the least multiple of Unit that holds the bytes and two words.
func TestNeedOfAll(t *testing.T) {
	for n := 1; n <= lastLen; n++ {
		want := unit
		for (want-2)*8 < n {
			want += unit
		}
		if got, e := Need(n); got != want || e != api.OK {
			t.Errorf("Need(%d) = %d, %v; want %d", n, got, e, want)
		}
	}
}

func TestNeedRefuses(t *testing.T) {
	for _, n := range append(edges(), lastLen+1, lastLen+8, -lastLen) {
		if n >= 1 && n <= lastLen {
			continue
		}
		if got, e := Need(n); got != 0 || e != api.ErrArg {
			t.Errorf("Need(%d) = %d, %v; want 0, ErrArg", n, got, e)
		}
	}
}

// P10.1: Right, and P10.2: Gaps, Behind

func TestGapsExamples(t *testing.T) {
	for _, one := range []struct {
		from, to   int
		used, want []api.Span
	}{
		{0, 32, row(4, 8), row(0, 4, 12, 20)},
		{0, 32, nil, row(0, 32)},
		{0, 32, row(0, 32), nil},
		{0, 32, row(0, 4), row(4, 28)},
		{0, 32, row(28, 4), row(0, 28)},
		{0, 32, row(0, 16, 16, 16), nil},
		{0, 32, row(4, 8, 12, 4), row(0, 4, 16, 16)},
		{0, 32, row(0, 8, 12, 20), row(8, 4)},
		{32, 64, row(36, 4, 44, 8), row(32, 4, 40, 4, 52, 12)},
		{0, 0, nil, nil},
		{words, words, nil, nil},
		{0, words, nil, row(0, words)},
		{0, words, row(1024, 4), row(0, 1024, 1028, 1020)},
	} {
		if !look(t, one.from, one.to, one.used) {
			t.Errorf("%d, %d, %v are not right", one.from, one.to, one.used)
		}
		if l, e := Gaps(one.from, one.to, one.used); !slices.Equal(l, one.want) || e != api.OK {
			t.Errorf("Gaps(%d, %d, %v) = %v, %v; want %v", one.from, one.to, one.used, l, e, one.want)
		}
	}
}

func TestBehindExamples(t *testing.T) {
	used := row(36, 4, 44, 8, 52, 4)
	for k, want := range []int{4, 0, 8} {
		if n, e := Behind(32, 64, used, k); n != want || e != api.OK {
			t.Errorf("Behind(%d) = %d, %v; want %d", k, n, e, want)
		}
	}
	if n, e := Behind(32, 56, used, 2); n != 0 || e != api.OK {
		t.Errorf("Behind of one that ends at to = %d, %v", n, e)
	}
}

func TestWrongOnes(t *testing.T) {
	for _, used := range [][]api.Span{
		row(4, 8, 8, 4), row(4, 8, 4, 8), row(4, 8, 4, 4), row(4, 4, 4, 8), row(4, 16, 8, 4), row(8, 4, 4, 16), // in one another
		row(12, 4, 4, 8), row(16, 4, 4, 4), row(4, 4, 12, 4, 8, 4), // in the wrong order
		row(8, 0), row(8, -4), row(8, -8), row(8, 1), row(8, 2), row(8, 3), row(8, 5), row(8, 6), row(9, 4), row(10, 4), row(11, 4), row(5, 3), // Sizes and Ats
		row(0, 4), row(0, 8), row(-4, 12), row(-4, 4), row(2, 4), row(3, 8), row(32, 4), row(28, 8), row(36, 4), row(4, 32), row(0, 40), row(32, 0), row(4, 0), // between 4 and 32
		row(8, math.MaxInt-3), row(8, math.MaxInt-7), row(8, math.MinInt), row(math.MaxInt-3, 4), row(math.MinInt, 4), row(math.MaxInt-3, 8), row(math.MinInt, math.MinInt), row(1<<62, 1<<62),
	} {
		refused(t, 4, 32, used)
		refused(t, 4, 32, append(used, span(24, 4)))
		refused(t, 4, 32, append(row(4, 4), used...))
	}
}

// TestEndsOfHeaps: of all pairs of edges those of the chapter alone, with no block and with some.
func TestEndsOfHeaps(t *testing.T) {
	right := 0
	for _, from := range edges() {
		for _, to := range edges() {
			for _, used := range [][]api.Span{nil, row(0, 4), row(8, 8), row(words-4, 4), row(4, 4, 1024, 1024), row(0, words)} {
				if look(t, from, to, used) {
					right++
				}
			}
		}
	}
	if right == 0 {
		t.Error("none were right")
	}
	for n := -2 * unit; n <= words+2*unit; n++ {
		look(t, n, n, nil)
		look(t, 0, n, nil)
		look(t, n, words, nil)
		look(t, n, words-n, nil)
	}
}

// TestOneBlockOfAnySize: one of all edges, alone, ahead of a right one and behind it.
func TestOneBlockOfAnySize(t *testing.T) {
	right := 0
	for _, at := range edges() {
		for _, size := range edges() {
			for _, ends := range row(0, words, 4, 32, 1024, words, 0, 0, 8, 12) {
				s := span(at, size)
				for _, used := range [][]api.Span{{s}, {s, span(words-4, 4)}, {span(4, 4), s}, {span(4, 4), s, span(16, 4)}} {
					if look(t, ends.At, ends.Size, used) {
						right++
					}
				}
			}
		}
	}
	if right == 0 {
		t.Error("none were right")
	}
}

// TestTwoBlocksOfAnySize: also with sums that come round to a number that would be right.
func TestTwoBlocksOfAnySize(t *testing.T) {
	numbers := []int{math.MinInt, math.MinInt + 4, -8, -4, -1, 0, 1, 4, 8, 12, 16, words - 4, words, 1 << 62, math.MaxInt - 7, math.MaxInt - 3, math.MaxInt}
	var l []api.Span
	for _, at := range numbers {
		for _, size := range numbers {
			l = append(l, span(at, size))
		}
	}
	for _, a := range l {
		for _, b := range l {
			_, right := heap(0, words, []api.Span{a, b})
			if is := Right(0, words, []api.Span{a, b}); is != right {
				t.Fatalf("Right of %v, %v = %v", a, b, is)
			}
		}
	}
}

// TestAllRowsOfSmallHeaps: each row of blocks that a few units may hold, and each near it.
func TestAllRowsOfSmallHeaps(t *testing.T) {
	for _, from := range []int{0, 32, words - 5*unit} {
		for _, used := range laid(from, from+5*unit) {
			if !look(t, from, from+5*unit, used) {
				t.Fatalf("%v are not right", used)
			}
			nearby(t, from, from+5*unit, used)
		}
	}
}

// nearby turns each number of a row a little, and swaps each two blocks.
func nearby(t *testing.T, from, to int, used []api.Span) {
	t.Helper()
	for _, by := range []int{-8, -4, -3, -2, -1, 1, 2, 3, 4, 8} {
		look(t, from+by, to, used)
		look(t, from, to+by, used)
		for k := range used {
			other := slices.Clone(used)
			other[k].At += by
			look(t, from, to, other)
			other[k].Size -= by
			look(t, from, to, other)
			other[k].At -= by
			look(t, from, to, other)
		}
	}
	for k := range used {
		look(t, from, to, slices.Insert(slices.Clone(used), k, used[k]))
		for i := range k {
			other := slices.Clone(used)
			other[k], other[i] = other[i], other[k]
			refused(t, from, to, other)
		}
	}
}

func TestRolledRows(t *testing.T) {
	for _, one := range rolledRows(1, 300) {
		if !look(t, one.from, one.to, one.used) {
			t.Fatalf("%d, %d, %v are not right", one.from, one.to, cut(one.used))
		}
		for k := range one.used[:min(len(one.used), 8)] {
			other := slices.Clone(one.used)
			other[k].Size += unit
			look(t, one.from, one.to, other)
			other[k].At -= unit
			look(t, one.from, one.to, other)
		}
	}
}

func TestMoreBlocksThanAHeapHolds(t *testing.T) {
	look(t, 0, words, slices.Repeat(row(0, 4), 100000))
	look(t, 0, words, units(0, words+unit, unit))
	look(t, 0, words, units(0, 1<<20, unit))
	look(t, 0, 1<<20, units(0, 1<<20, unit))
}

// W5: no blocks, however they are handed in.
func TestOfNone(t *testing.T) {
	for _, used := range [][]api.Span{nil, {}, row(1, 2, 3, 4)[:0]} {
		for _, ends := range row(0, 0, 0, words, words, words, 32, 64) {
			if !look(t, ends.At, ends.Size, used) {
				t.Errorf("%#v is not right between %v", used, ends)
			}
			behindRefused(t, ends.At, ends.Size, used, 0)
		}
		for _, size := range edges() {
			if s, is := Best(used, size); s != (api.Span{}) || is {
				t.Errorf("Best(%#v, %d) = %v, %v", used, size, s, is)
			}
		}
	}
}

// W2: the same each time, whatever was asked between.
func TestSameEachTime(t *testing.T) {
	for range 3 {
		for _, one := range rolledRows(2, 30) {
			look(t, one.from, one.to, one.used)
			look(t, one.from+1, one.to, one.used)
			sameBest(t, one.used, unit)
		}
	}
}
