package tree

import (
	"math"
	"slices"
	"testing"

	"joist/api"
)

// The limits, kinds and uses, written out: the tests must not lean on what they hold the package against.
const (
	mostPages = 64
	mostNodes = 13
	nodeSize  = 128
	fan       = 7

	free  = -1
	first = 6
	more  = 7

	useFree  = 0
	useSlab  = 1
	useLarge = 2
)

// dice are numbers without an order that anybody sees, but the same each time.
func dice(seed uint32) func(n int) int {
	return func(n int) int {
		seed = seed*1664525 + 1013904223
		return int(seed>>8) % n
	}
}

// row are extents, by their numbers.
func row(numbers ...int) []api.Extent {
	var l []api.Extent
	for i := 0; i+2 < len(numbers); i += 3 {
		l = append(l, api.Extent{At: numbers[i], Size: numbers[i+1], Use: numbers[i+2]})
	}
	return l
}

// many are n kinds alike.
func many(kind, n int) []int { return slices.Repeat([]int{kind}, n) }

// rolledKinds are kinds of pages, all of them right: of some rolls many pages are free, of others few.
func rolledKinds(roll func(int) int, pages int) []int {
	var kinds []int
	frees, larges := roll(4), roll(4)
	for len(kinds) < pages {
		switch k := roll(8); {
		case k < frees:
			kinds = append(kinds, many(free, 1+roll(3))...)
		case k < frees+larges:
			kinds = append(append(kinds, first), many(more, roll(5))...)
		default:
			kinds = append(kinds, roll(6))
		}
	}
	return kinds[:pages]
}

// countRow are n extents that are right, and the pages that they have: each third one is a large object of two pages, as long as there are enough for all.
func countRow(n int) (int, []api.Extent) {
	var l []api.Extent
	at, spare := 0, mostPages-n
	for k := range n {
		x := api.Extent{At: at, Size: 1, Use: useSlab}
		switch {
		case k%3 == 1 && spare > 0:
			x.Size, x.Use = 2, useLarge
			spare--
		case k%3 == 2:
			x.Use = useFree
		}
		l = append(l, x)
		at += x.Size
	}
	return at, l
}

// farPages are numbers of pages that may not be. Those past 2^32 have a right one in their lower half.
func farPages() []int {
	return []int{math.MinInt, math.MinInt + 1, math.MinInt + 4, -1 << 32, -1<<32 + 4, -64, -4, -1, 65, 66, 128, 1 << 31, 1 << 32, 1<<32 + 4, 1<<62 + 4, math.MaxInt - 1, math.MaxInt}
}

// P14.1, From

// wantFrom asks of each page by itself whether it may stand where it does, and whether an extent begins with it.
func wantFrom(kinds []int) ([]api.Extent, bool) {
	if len(kinds) > mostPages {
		return nil, false
	}
	var l []api.Extent
	for at, kind := range kinds {
		ahead := math.MaxInt
		if at > 0 {
			ahead = kinds[at-1]
		}
		if kind < free || kind > more || kind == more && ahead != first && ahead != more {
			return nil, false
		}
		if kind == more || kind == free && ahead == free {
			continue
		}
		end := at + 1
		for end < len(kinds) && (kind == free && kinds[end] == free || kind == first && kinds[end] == more) {
			end++
		}
		l = append(l, api.Extent{At: at, Size: end - at, Use: wantUse(kind)})
	}
	return l, true
}

func wantUse(kind int) int {
	switch kind {
	case free:
		return useFree
	case first:
		return useLarge
	}
	return useSlab
}

func lookFrom(t *testing.T, kinds []int) {
	t.Helper()
	want, is := wantFrom(kinds)
	if l, got := From(kinds); got != is || !slices.Equal(l, want) {
		t.Fatalf("From(%v) = %v, %v; want %v, %v", kinds, l, got, want, is)
	}
}

func TestFromByHand(t *testing.T) {
	for _, one := range []struct {
		kinds []int
		want  []api.Extent
	}{
		{nil, nil},
		{[]int{}, nil},
		{[]int{0, first, more, free}, row(0, 1, 1, 1, 2, 2, 3, 1, 0)},
		{[]int{free}, row(0, 1, 0)},
		{[]int{0}, row(0, 1, 1)},
		{[]int{1}, row(0, 1, 1)},
		{[]int{2}, row(0, 1, 1)},
		{[]int{3}, row(0, 1, 1)},
		{[]int{4}, row(0, 1, 1)},
		{[]int{5}, row(0, 1, 1)},
		{[]int{first}, row(0, 1, 2)},
		{[]int{free, free, 5}, row(0, 2, 0, 2, 1, 1)},
		{[]int{5, free, free, free, 5}, row(0, 1, 1, 1, 3, 0, 4, 1, 1)},
		{[]int{5, free, free}, row(0, 1, 1, 1, 2, 0)},
		{[]int{free, 0, free, first, free}, row(0, 1, 0, 1, 1, 1, 2, 1, 0, 3, 1, 2, 4, 1, 0)},
		{[]int{first, more, more, more, more, more, more, more}, row(0, 8, 2)},
		{[]int{first, first}, row(0, 1, 2, 1, 1, 2)},
		{[]int{first, more, first, more, more, first}, row(0, 2, 2, 2, 3, 2, 5, 1, 2)},
		{[]int{first, more, free, free, first, more}, row(0, 2, 2, 2, 2, 0, 4, 2, 2)},
		{[]int{3, 3, 3}, row(0, 1, 1, 1, 1, 1, 2, 1, 1)},
		{many(free, 64), row(0, 64, 0)},
		{append([]int{first}, many(more, 63)...), row(0, 64, 2)},
	} {
		if l, is := From(one.kinds); !is || !slices.Equal(l, one.want) {
			t.Errorf("From(%v) = %v, %v; want %v", one.kinds, l, is, one.want)
		}
	}
	for kind := range 7 {
		kinds := many(kind, 64)
		l, is := From(kinds)
		if !is || len(l) != 64 || l[63] != (api.Extent{At: 63, Size: 1, Use: 1 + kind/6}) {
			t.Errorf("From(64 of %d) = %v, %v", kind, l, is)
		}
	}
}

func TestFromOfWrongKinds(t *testing.T) {
	wrong := [][]int{
		{more}, {more, more}, {more, first}, {0, more}, {5, more}, {free, more}, {first, more, free, more}, {first, more, 2, more}, {first, free, more}, {first, 0, more},
		many(free, 65), many(0, 65), many(first, 65), append([]int{first}, many(more, 64)...), many(free, 1000),
	}
	for _, kind := range []int{-2, -3, -64, 8, 9, 64, 1 << 31, 1 << 32, 1<<32 + 3, 1<<32 - 1, -1<<32 + 3, math.MinInt, math.MinInt + 6, math.MaxInt - 1, math.MaxInt} {
		wrong = append(wrong, []int{kind}, []int{0, kind}, []int{kind, 0}, []int{first, kind}, []int{free, kind}, append(many(1, 63), kind), append([]int{kind}, many(free, 63)...))
	}
	for _, kinds := range wrong {
		if l, is := From(kinds); is || len(l) != 0 {
			t.Errorf("From(%v) = %v, %v; want none, false", kinds, l, is)
		}
	}
}

// TestFromOfAllShortRows: each row of up to six kinds, of each sort one or two, with those just past both ends.
func TestFromOfAllShortRows(t *testing.T) {
	rows := [][]int{nil}
	for range 6 {
		var longer [][]int
		for _, kinds := range rows {
			for _, kind := range []int{-2, free, 0, 5, first, more, 8} {
				longer = append(longer, append(slices.Clone(kinds), kind))
			}
		}
		for _, kinds := range longer {
			lookFrom(t, kinds)
		}
		rows = longer
	}
}

func TestFromOfRolledKinds(t *testing.T) {
	roll := dice(141)
	for pages := range mostPages + 3 {
		for range 40 {
			kinds := rolledKinds(roll, pages)
			lookFrom(t, kinds)
			if pages > 0 {
				kinds[roll(pages)] = roll(12) - 2
				lookFrom(t, kinds)
			}
		}
	}
}

// P14.1, Right

// wantRight gives each page to the extent that has it, one by one.
func wantRight(pages int, l []api.Extent) bool {
	if pages < 0 || pages > mostPages {
		return false
	}
	owner := make([]int, pages)
	page := 0
	for k, x := range l {
		if x.Size < 1 || x.Use < useFree || x.Use > useLarge || x.Use == useSlab && x.Size > 1 || x.At != page {
			return false
		}
		for range x.Size {
			if page == pages {
				return false
			}
			owner[page] = x.Use
			page++
		}
		if k > 0 && owner[x.At] == useFree && owner[x.At-1] == useFree {
			return false
		}
	}
	return page == pages
}

func lookRight(t *testing.T, pages int, l []api.Extent) bool {
	t.Helper()
	want := wantRight(pages, l)
	if is := Right(pages, l); is != want {
		t.Fatalf("Right(%d, %v) = %v", pages, l, is)
	}
	return want
}

func TestRightByHand(t *testing.T) {
	for _, one := range []struct {
		pages int
		l     []api.Extent
	}{
		{0, nil},
		{0, []api.Extent{}},
		{1, row(0, 1, 0)},
		{1, row(0, 1, 1)},
		{1, row(0, 1, 2)},
		{4, row(0, 1, 1, 1, 2, 2, 3, 1, 0)},
		{3, row(0, 1, 0, 1, 1, 2, 2, 1, 0)},
		{4, row(0, 2, 2, 2, 2, 2)},
		{3, row(0, 1, 1, 1, 1, 1, 2, 1, 1)},
		{64, row(0, 64, 0)},
		{64, row(0, 64, 2)},
		{64, row(0, 63, 0, 63, 1, 1)},
	} {
		if !Right(one.pages, one.l) {
			t.Errorf("Right(%d, %v) = false", one.pages, one.l)
		}
	}
	for n := range mostPages + 1 {
		if pages, l := countRow(n); !Right(pages, l) {
			t.Errorf("Right(%d, %v) = false", pages, l)
		}
	}
}

// wrongRow are extents that are not right for so many pages, and why.
type wrongRow struct {
	what  string
	pages int
	l     []api.Extent
}

func wrongRows() []wrongRow {
	slabs := func(n int) []api.Extent {
		var l []api.Extent
		for k := range n {
			l = append(l, api.Extent{At: k, Size: 1, Use: useSlab})
		}
		return l
	}
	l := []wrongRow{
		{"none of one page", 1, nil},
		{"none of 64 pages", 64, nil},
		{"one of no page", 0, row(0, 1, 1)},
		{"an empty one of no page", 0, row(0, 0, 0)},
		{"does not begin with page 0", 3, row(1, 2, 2)},
		{"does not begin with page 0, as many pages", 2, row(1, 2, 2)},
		{"begins below page 0", 2, row(-1, 3, 2)},
		{"a gap", 4, row(0, 1, 1, 2, 2, 2)},
		{"one over another", 3, row(0, 2, 2, 1, 2, 0)},
		{"one page twice", 1, row(0, 1, 1, 0, 1, 1)},
		{"not rising", 3, row(1, 2, 2, 0, 1, 1)},
		{"ends too early", 4, row(0, 1, 1, 1, 2, 2)},
		{"ends too late", 3, row(0, 1, 1, 1, 2, 2, 3, 1, 0)},
		{"the last one too long", 2, row(0, 1, 1, 1, 2, 2)},
		{"a Size of 0", 1, row(0, 0, 0, 0, 1, 1)},
		{"a Size of 0 of a large one", 1, row(0, 0, 2, 0, 1, 1)},
		{"a Size of 0 of a slab", 1, row(0, 0, 1, 0, 1, 1)},
		{"a Size of 0 at the end", 1, row(0, 1, 1, 1, 0, 2)},
		{"a Size below 0", 1, row(0, 2, 2, 2, -1, 0)},
		{"a Size below 0 in front", 1, row(0, -1, 2, -1, 2, 0)},
		{"the least Size", 1, row(0, math.MinInt, 2)},
		{"the greatest Size", 1, row(0, math.MaxInt, 2)},
		{"Sizes that come round", 4, row(0, math.MaxInt, 2, math.MaxInt, math.MaxInt, 0, -2, 6, 2)},
		{"Sizes that come round from page 1", 4, row(0, 1, 1, 1, math.MaxInt, 2, math.MinInt, math.MaxInt, 0, -1, 5, 2)},
		{"a great At", 2, row(0, 1, 1, math.MaxInt, 1, 2)},
		{"a Use below 0", 2, row(0, 1, 1, 1, 1, -1)},
		{"the least Use", 1, row(0, 1, math.MinInt)},
		{"a Use past UseLarge", 1, row(0, 1, 3)},
		{"a Use of 4", 1, row(0, 1, 4)},
		{"the greatest Use", 1, row(0, 1, math.MaxInt)},
		{"a Use that is right in its lower half", 1, row(0, 1, 1<<32+1)},
		{"a slab of two pages", 2, row(0, 2, 1)},
		{"a slab of two pages in the middle", 4, row(0, 1, 0, 1, 2, 1, 3, 1, 0)},
		{"a slab of 64 pages", 64, row(0, 64, 1)},
		{"two free ones side by side", 2, row(0, 1, 0, 1, 1, 0)},
		{"two long free ones side by side", 9, row(0, 1, 1, 1, 3, 0, 4, 4, 0, 8, 1, 1)},
		{"two free ones at the end", 3, row(0, 1, 1, 1, 1, 0, 2, 1, 0)},
		{"65 slabs, of 65 pages", 65, slabs(65)},
		{"65 slabs, of 64 pages", 64, slabs(65)},
		{"1000 slabs", 64, slabs(1000)},
		{"64 slabs, of 63 pages", 63, slabs(64)},
		{"63 slabs, of 64 pages", 64, slabs(63)},
		{"one of 65 pages", 65, row(0, 65, 0)},
		{"no pages below 0", -1, nil},
		{"one of -1 pages", -1, row(0, -1, 0)},
		{"one of the most pages there are", math.MaxInt, row(0, math.MaxInt, 0)},
		{"one of the fewest pages there are", math.MinInt, row(0, math.MinInt, 0)},
	}
	for _, pages := range farPages() {
		l = append(l, wrongRow{"none of pages that may not be", pages, nil}, wrongRow{"four of pages that may not be", pages, row(0, 4, 2)}, wrongRow{"as many as pages that may not be", pages, row(0, pages, 2)})
	}
	return l
}

func TestWrongExtents(t *testing.T) {
	for _, one := range wrongRows() {
		if Right(one.pages, one.l) {
			t.Errorf("%s: Right(%d, %v) = true", one.what, one.pages, one.l)
		}
	}
}

// TestRightOfAllShortRows: each row of up to three extents whose numbers are right ones or just beside.
func TestRightOfAllShortRows(t *testing.T) {
	rows := [][]api.Extent{nil}
	told := 0
	for range 3 {
		var longer [][]api.Extent
		for _, l := range rows {
			end := 0
			if len(l) > 0 {
				end = l[len(l)-1].At + l[len(l)-1].Size
			}
			for at := end - 1; at <= end+1; at++ {
				for size := -1; size <= 3; size++ {
					for use := -1; use <= 3; use++ {
						longer = append(longer, append(slices.Clone(l), api.Extent{At: at, Size: size, Use: use}))
					}
				}
			}
		}
		for _, l := range longer {
			for pages := range 5 {
				if lookRight(t, pages, l) {
					told++
				}
			}
		}
		rows = longer
	}
	if told < 60 {
		t.Errorf("%d were right", told)
	}
}

// TestRightOfRolledExtents: right ones, and right ones with one number turned, for as many pages, one more and one fewer.
func TestRightOfRolledExtents(t *testing.T) {
	roll := dice(142)
	for pages := range mostPages + 2 {
		for range 30 {
			l, _ := wantFrom(rolledKinds(roll, pages))
			for p := pages - 1; p <= pages+1; p++ {
				lookRight(t, p, l)
			}
			if len(l) == 0 {
				continue
			}
			x := &l[roll(len(l))]
			switch roll(3) {
			case 0:
				x.At += roll(5) - 2
			case 1:
				x.Size += roll(5) - 2
			default:
				x.Use = roll(6) - 1
			}
			lookRight(t, pages, l)
		}
	}
}

// P14.2

// wantNodes reckons without a sign, so that no sum comes round.
func wantNodes(n int) uint64 {
	if n < 0 {
		return 0
	}
	all, level := uint64(1), uint64(n)
	for level > fan {
		level = (level + fan - 1) / fan
		all += level
	}
	return all
}

func TestNodes(t *testing.T) {
	for n, want := range map[int]int{
		0: 1, 1: 1, 2: 1, 6: 1, 7: 1, 8: 3, 14: 3, 15: 4, 40: 7, 48: 8, 49: 8, 50: 11, 56: 11, 57: 12, 63: 12, 64: 13, 65: 13, 70: 13, 71: 14, 98: 17, 99: 19, 343: 57, 344: 61, 2401: 400, 2402: 405,
		-1: 0, -2: 0, -7: 0, -8: 0, -64: 0, math.MinInt: 0, math.MinInt + 1: 0, math.MinInt / 2: 0,
	} {
		if got := Nodes(n); got != want {
			t.Errorf("Nodes(%d) = %d; want %d", n, got, want)
		}
	}
}

func TestNodesOfMany(t *testing.T) {
	l := []int{1 << 31, 1<<31 - 1, 1 << 32, 1 << 40, 1 << 61, 1 << 62, math.MaxInt / 2, math.MaxInt/2 + 1}
	for n := range 20000 {
		l = append(l, n, math.MaxInt-n)
	}
	for power := 1; power < math.MaxInt/fan; power *= fan {
		l = append(l, power-1, power, power+1)
	}
	for _, n := range l {
		if got := Nodes(n); got < 0 || uint64(got) != wantNodes(n) {
			t.Fatalf("Nodes(%d) = %d; want %d", n, got, wantNodes(n))
		}
	}
}
