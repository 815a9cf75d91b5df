package shape

import (
	"math"
	"strings"
	"testing"

	"joist/api"
)

// The limits, written out: the tests must not lean on what they hold the package against.
const (
	mostPages = 64
	mostSlots = 32
	mostRoots = 8
	mostLines = 4096
	treeLines = 26 // two for each of thirteen nodes
)

// rows names of each line of a right shape the part that it is of, one byte a line: the tests' own reckoning.
func rows(s api.Shape) string {
	return "s" + "m" + strings.Repeat("r", 2*s.Room) + "h" + strings.Repeat("t", s.Slots/2) + strings.Repeat("o", s.Roots/2) +
		strings.Repeat("n", treeLines) + strings.Repeat("p", 4*s.Pages)
}

// mostRoom is the greatest Room beside the other numbers of a shape.
func mostRoom(s api.Shape) int {
	s.Room = 0
	return (mostLines - len(rows(s))) / 2
}

// isRight is Right, reckoned once more.
func isRight(s api.Shape) bool {
	return s.Pages >= 1 && s.Pages <= mostPages && fits(s.Slots, mostSlots) && fits(s.Roots, mostRoots) && s.Room >= 1 && s.Room <= mostRoom(s)
}

func fits(n, most int) bool {
	for k := 2; k <= most; k += 2 {
		if n == k {
			return true
		}
	}
	return false
}

// small is the chapter's example.
func small() api.Shape { return api.Shape{Pages: 4, Slots: 4, Roots: 2, Room: 30} }

// far are numbers that none of a shape's may be. Cut to fewer bits, doubled or multiplied they may come round to some that may.
func far() []int {
	return []int{
		math.MinInt, math.MinInt + 1, math.MinInt + 2, math.MinInt + 4, math.MinInt + 30, math.MinInt / 2, math.MinInt/2 + 4, math.MinInt/4 + 4,
		-1 << 32, -1<<32 + 4, -1<<31 + 4, -4096, -64, -32, -30, -8, -4, -3, -2, -1, 0,
		4096, 4097, 1 << 16, 1<<16 + 4, 1 << 31, 1<<31 + 4, 1 << 32, 1<<32 + 2, 1<<32 + 4, 1<<32 + 30,
		1 << 60, 1<<60 + 4, 1 << 61, 1<<61 + 4, 1<<62 - 1, 1 << 62, 1<<62 + 1, 1<<62 + 4, 1<<62 + 30, math.MaxInt - 1, math.MaxInt,
	}
}

// rightIs holds Right and Areas of a right shape against the tests' reckoning.
func rightIs(t *testing.T, s api.Shape) {
	t.Helper()
	l := rows(s)
	want := api.Areas{
		Log:   api.Log{Mark: 1, First: 2, Room: s.Room},
		Heads: strings.IndexByte(l, 'h'),
		Table: strings.IndexByte(l, 't'),
		Roots: strings.IndexByte(l, 'o'),
		Tree:  strings.IndexByte(l, 'n'),
		Heap:  strings.IndexByte(l, 'p'),
		Lines: len(l),
	}
	if !Right(s) {
		t.Fatalf("Right(%+v) is false", s)
	}
	if a, e := Areas(s); a != want || e != api.OK {
		t.Fatalf("Areas(%+v) = %+v, %d; want %+v", s, a, e, want)
	}
}

// wrongIs holds all calls of a shape that is not right against what they must tell.
func wrongIs(t *testing.T, s api.Shape) {
	t.Helper()
	if Right(s) {
		t.Fatalf("Right(%+v) is true", s)
	}
	if a, e := Areas(s); a != (api.Areas{}) || e != api.ErrArg {
		t.Fatalf("Areas(%+v) = %+v, %d; want zero areas, ErrArg", s, a, e)
	}
	for _, line := range []int{math.MinInt, -1, 0, 1, 2, 61, 62, 107, 108, 4095, 4096, math.MaxInt} {
		if Outside(s, line) {
			t.Fatalf("Outside(%+v, %d) is true", s, line)
		}
	}
}

func look(t *testing.T, s api.Shape) {
	t.Helper()
	if isRight(s) {
		rightIs(t, s)
	} else {
		wrongIs(t, s)
	}
}

// eachSize goes through all shapes that may be right with some Room, and hands them on without one.
func eachSize(hand func(api.Shape)) {
	for pages := 1; pages <= mostPages; pages++ {
		for slots := 2; slots <= mostSlots; slots += 2 {
			for roots := 2; roots <= mostRoots; roots += 2 {
				hand(api.Shape{Pages: pages, Slots: slots, Roots: roots})
			}
		}
	}
}

// P16.1

func TestExample(t *testing.T) {
	a, e := Areas(small())
	want := api.Areas{Log: api.Log{Mark: 1, First: 2, Room: 30}, Heads: 62, Table: 63, Roots: 65, Tree: 66, Heap: 92, Lines: 108}
	if a != want || e != api.OK || !Right(small()) {
		t.Errorf("Areas = %+v, %d; want %+v", a, e, want)
	}
}

// TestAreasByHand: at the edges of each number, written out.
func TestAreasByHand(t *testing.T) {
	for _, one := range []struct {
		s                                      api.Shape
		heads, table, roots, tree, heap, lines int
	}{
		{api.Shape{Pages: 1, Slots: 2, Roots: 2, Room: 1}, 4, 5, 6, 7, 33, 37},
		{api.Shape{Pages: 64, Slots: 2, Roots: 2, Room: 1}, 4, 5, 6, 7, 33, 289},
		{api.Shape{Pages: 1, Slots: 32, Roots: 2, Room: 1}, 4, 5, 21, 22, 48, 52},
		{api.Shape{Pages: 1, Slots: 2, Roots: 8, Room: 1}, 4, 5, 6, 10, 36, 40},
		{api.Shape{Pages: 64, Slots: 32, Roots: 8, Room: 1}, 4, 5, 21, 25, 51, 307},
		{api.Shape{Pages: 1, Slots: 2, Roots: 2, Room: 2030}, 4062, 4063, 4064, 4065, 4091, 4095},
		{api.Shape{Pages: 1, Slots: 4, Roots: 2, Room: 2030}, 4062, 4063, 4065, 4066, 4092, 4096},
		{api.Shape{Pages: 64, Slots: 32, Roots: 8, Room: 1895}, 3792, 3793, 3809, 3813, 3839, 4095},
		{api.Shape{Pages: 64, Slots: 32, Roots: 6, Room: 1896}, 3794, 3795, 3811, 3814, 3840, 4096},
	} {
		want := api.Areas{Log: api.Log{Mark: 1, First: 2, Room: one.s.Room}, Heads: one.heads, Table: one.table, Roots: one.roots, Tree: one.tree, Heap: one.heap, Lines: one.lines}
		if a, e := Areas(one.s); a != want || e != api.OK || !Right(one.s) {
			t.Errorf("Areas(%+v) = %+v, %d; want %+v", one.s, a, e, want)
		}
	}
	for _, s := range []api.Shape{
		{},
		{Pages: 1, Slots: 2, Roots: 2, Room: 2031},
		{Pages: 1, Slots: 4, Roots: 2, Room: 2031},
		{Pages: 2, Slots: 4, Roots: 2, Room: 2030},
		{Pages: 1, Slots: 6, Roots: 2, Room: 2030},
		{Pages: 1, Slots: 4, Roots: 4, Room: 2030},
		{Pages: 64, Slots: 32, Roots: 8, Room: 1896},
		{Pages: 64, Slots: 32, Roots: 6, Room: 1897},
	} {
		wrongIs(t, s)
	}
}

// TestEachSize: with the least Room, the greatest one, and those beside them.
func TestEachSize(t *testing.T) {
	eachSize(func(s api.Shape) {
		most := mostRoom(s)
		for _, room := range []int{1, 2, 30, most - 1, most} {
			s.Room = room
			rightIs(t, s)
		}
		for _, room := range []int{0, -1, most + 1, 2 * most} {
			s.Room = room
			wrongIs(t, s)
		}
	})
}

func TestEachRoom(t *testing.T) {
	for _, s := range []api.Shape{small(), {Pages: 1, Slots: 2, Roots: 2}, {Pages: 1, Slots: 4, Roots: 2}, {Pages: 64, Slots: 32, Roots: 6}, {Pages: 64, Slots: 32, Roots: 8}} {
		for room := -mostLines; room <= 2*mostLines; room++ {
			s.Room = room
			look(t, s)
		}
	}
}

// TestAroundTheEdges: all shapes whose numbers are a little below what may be, to a little above it.
func TestAroundTheEdges(t *testing.T) {
	for pages := -2; pages <= mostPages+3; pages++ {
		for slots := -3; slots <= mostSlots+3; slots++ {
			for roots := -3; roots <= mostRoots+3; roots++ {
				for _, room := range []int{-1, 0, 1, 30} {
					look(t, api.Shape{Pages: pages, Slots: slots, Roots: roots, Room: room})
				}
			}
		}
	}
}

// with are the shapes that are as s, but for one number.
func with(s api.Shape, n int) []api.Shape {
	pages, slots, roots, room := s, s, s, s
	pages.Pages, slots.Slots, roots.Roots, room.Room = n, n, n, n
	return []api.Shape{pages, slots, roots, room}
}

func TestWrongNumbers(t *testing.T) {
	for _, s := range []api.Shape{small(), {Pages: 1, Slots: 2, Roots: 2, Room: 1}, {Pages: 64, Slots: 32, Roots: 8, Room: 1895}} {
		for _, n := range far() {
			for _, one := range with(s, n) {
				wrongIs(t, one)
				for _, other := range far() {
					for _, two := range with(one, other) {
						wrongIs(t, two)
					}
				}
			}
		}
	}
}

// TestWrongEverywhere: no sum of wrong numbers makes a right shape.
func TestWrongEverywhere(t *testing.T) {
	wrongIs(t, api.Shape{})
	for _, a := range far() {
		wrongIs(t, api.Shape{Pages: a, Slots: a, Roots: a, Room: a})
		for _, b := range far() {
			wrongIs(t, api.Shape{Pages: a, Slots: b, Roots: a, Room: b})
			wrongIs(t, api.Shape{Pages: a, Slots: b, Roots: b, Room: a})
			wrongIs(t, api.Shape{Pages: a, Slots: a, Roots: b, Room: b})
		}
	}
}

func TestOddNumbers(t *testing.T) {
	for odd := -33; odd <= 67; odd += 2 {
		s := small()
		s.Slots = odd
		wrongIs(t, s)
		s = small()
		s.Roots = odd
		wrongIs(t, s)
		s.Slots = odd
		wrongIs(t, s)
	}
	// Of pages and records an odd number may be.
	rightIs(t, api.Shape{Pages: 3, Slots: 2, Roots: 2, Room: 7})
}

// P16.2

func outsideIs(t *testing.T, s api.Shape, line int, want bool) {
	t.Helper()
	if Outside(s, line) != want {
		t.Errorf("Outside(%+v, %d) is %v", s, line, !want)
	}
}

func TestOutsideByHand(t *testing.T) {
	for _, line := range []int{0, 1, 62, 63, 64, 65, 66, 91, 92, 106, 107} {
		outsideIs(t, small(), line, true)
	}
	for _, line := range []int{math.MinInt, -2, -1, 2, 3, 4, 60, 61, 108, 109, 4095, 4096, math.MaxInt} {
		outsideIs(t, small(), line, false)
	}
	least := api.Shape{Pages: 1, Slots: 2, Roots: 2, Room: 1}
	for line, want := range []bool{true, true, false, false, true, true} {
		outsideIs(t, least, line, want)
	}
	outsideIs(t, least, 36, true)
	outsideIs(t, least, 37, false)
	// All lines that there may be.
	full := api.Shape{Pages: 1, Slots: 4, Roots: 2, Room: 2030}
	for line, want := range map[int]bool{-1: false, 0: true, 1: true, 2: false, 4061: false, 4062: true, 4095: true, 4096: false} {
		outsideIs(t, full, line, want)
	}
}

// TestOutsideOfEachLine: of the shapes at the edges, and of some between.
func TestOutsideOfEachLine(t *testing.T) {
	for _, pages := range []int{1, 2, 33, 64} {
		for _, slots := range []int{2, 4, 32} {
			for _, roots := range []int{2, 6, 8} {
				s := api.Shape{Pages: pages, Slots: slots, Roots: roots}
				most := mostRoom(s)
				for _, room := range []int{1, 2, 30, most - 1, most} {
					s.Room = room
					outsideOfEach(t, s)
				}
			}
		}
	}
}

func outsideOfEach(t *testing.T, s api.Shape) {
	t.Helper()
	l := rows(s)
	for line := range l {
		outsideIs(t, s, line, l[line] != 'r')
	}
	for k := range 2 * mostLines {
		outsideIs(t, s, -1-k, false)
		outsideIs(t, s, len(l)+k, false)
	}
	// Those past 2^32 have a line's number in their lower half.
	for _, line := range []int{
		math.MinInt, math.MinInt + 1, math.MinInt + 2, -1 << 32, -1<<32 + 1, -1 << 31, 1 << 31, 1<<31 + 1, 1 << 32, 1<<32 + 1, 1 << 62, 1<<62 + 1, math.MaxInt - 1, math.MaxInt,
	} {
		outsideIs(t, s, line, false)
	}
}

func TestOutsideOfOneRecordMore(t *testing.T) {
	eachSize(func(s api.Shape) {
		s.Room = mostRoom(s)
		outsideIs(t, s, 0, true)
		outsideIs(t, s, 1, true)
		s.Room++
		outsideIs(t, s, 0, false)
		outsideIs(t, s, 1, false)
	})
}
