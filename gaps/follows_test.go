package gaps

import (
	"slices"
	"testing"

	"joist/api"
)

// P10.3

const spareOf = 40

// odd is what stands in spare room: no call writes it.
func odd() api.Span { return span(-77, -78) }

// roomy is a copy of l with spare room behind it.
func roomy(l []api.Span) []api.Span {
	all := append(slices.Clone(l), slices.Repeat([]api.Span{odd()}, spareOf)...)
	return all[:len(l):len(all)]
}

func unchanged(t *testing.T, l, was []api.Span) {
	t.Helper()
	if !slices.Equal(l, was) || slices.ContainsFunc(l[len(l):cap(l)], func(s api.Span) bool { return s != odd() }) {
		t.Fatalf("%v became %v, or its spare room is changed", cut(was), cut(l))
	}
}

// scribble writes over spans, their spare room too.
func scribble(l []api.Span) {
	for k := range l[:cap(l)] {
		l[:cap(l)][k] = odd()
	}
}

func TestNothingHandedInIsChanged(t *testing.T) {
	rows := rolledRows(5, 100)
	rows = append(rows, rolled{0, 32, row(12, 4, 4, 8)}, rolled{0, 32, row(4, 8, 4, 8)}, rolled{8, 4, row(0, -4)}, rolled{0, 32, row(3, 5)})
	for _, one := range rows {
		l := roomy(one.used)
		Right(one.from, one.to, l)
		Gaps(one.from, one.to, l)
		for k := -1; k <= len(l); k++ {
			Behind(one.from, one.to, l, k)
		}
		for _, size := range edges() {
			Best(l, size)
		}
		unchanged(t, l, one.used)
	}
}

// TestNothingIsKept: an answer stays as it was, when what was handed in is written over, and what is asked then is of no more than what is handed in then.
func TestNothingIsKept(t *testing.T) {
	for _, one := range rolledRows(6, 100) {
		own, _ := heap(one.from, one.to, one.used)
		l := roomy(one.used)
		first, _ := Gaps(one.from, one.to, l)
		scribble(l)
		if !slices.Equal(first, free(own)) {
			t.Fatalf("Gaps(%d, %d, %v) shares memory", one.from, one.to, cut(one.used))
		}
		if len(l) > 0 {
			refused(t, one.from, one.to, l)
		}
		look(t, one.from, one.to, one.used)
	}
}

// TestAnswersAreNewMemory: what was handed in, and other answers, stay as they were, when an answer and its spare room are written over.
func TestAnswersAreNewMemory(t *testing.T) {
	for _, one := range rolledRows(7, 100) {
		own, _ := heap(one.from, one.to, one.used)
		l := roomy(one.used)
		first, _ := Gaps(one.from, one.to, l)
		second, _ := Gaps(one.from, one.to, l)
		scribble(first)
		if !slices.Equal(second, free(own)) {
			t.Fatalf("two answers of Gaps(%d, %d, %v) share memory", one.from, one.to, cut(one.used))
		}
		scribble(second)
		unchanged(t, l, one.used)
		look(t, one.from, one.to, l)
	}
}

// P10.4

func TestGapsAndBlocksAreAllWords(t *testing.T) {
	for _, one := range rolledRows(8, 400) {
		l, e := Gaps(one.from, one.to, one.used)
		if e != api.OK {
			t.Fatalf("Gaps(%d, %d, %v) tells %v", one.from, one.to, cut(one.used), e)
		}
		all := append(slices.Clone(one.used), l...)
		slices.SortFunc(all, func(a, b api.Span) int { return a.At - b.At })
		next, lastIsGap := one.from, false
		for _, s := range all {
			isGap := slices.Contains(l, s)
			if s.At != next || s.Size < unit || s.Size%unit != 0 || isGap && lastIsGap {
				t.Fatalf("%d, %d, %v: %v is a gap, or leaves one, that may not be", one.from, one.to, cut(one.used), s)
			}
			next, lastIsGap = s.At+s.Size, isGap
		}
		if next != one.to {
			t.Fatalf("%d, %d, %v: gaps and blocks end at %d", one.from, one.to, cut(one.used), next)
		}
		if !slices.IsSortedFunc(l, func(a, b api.Span) int { return a.At - b.At }) {
			t.Fatalf("%v do not rise", cut(l))
		}
	}
}

// TestGapsHoldAllThatIsFree: a gap laid full is a gap no more, and the others are as they were.
func TestGapsHoldAllThatIsFree(t *testing.T) {
	for _, one := range rolledRows(9, 100) {
		l, _ := Gaps(one.from, one.to, one.used)
		for k, gap := range l {
			got, e := Gaps(one.from, one.to, with(one.used, gap))
			if want := slices.Delete(slices.Clone(l), k, k+1); e != api.OK || !slices.Equal(got, want) {
				t.Fatalf("%d, %d, %v with %v: gaps %v, %v; want %v", one.from, one.to, cut(one.used), gap, cut(got), e, cut(want))
			}
		}
	}
}

// P10.5

// with is a row with one block more, at its place.
func with(used []api.Span, s api.Span) []api.Span {
	k := 0
	for k < len(used) && used[k].At < s.At {
		k++
	}
	return slices.Insert(slices.Clone(used), k, s)
}

func TestBlocksLaidIntoGaps(t *testing.T) {
	for _, one := range rolledRows(10, 60) {
		l, _ := Gaps(one.from, one.to, one.used)
		for _, gap := range l {
			for size := unit; size <= gap.Size; size += unit {
				if !Right(one.from, one.to, with(one.used, span(gap.At, size))) {
					t.Fatalf("%d, %d, %v with %d words in %v are not right", one.from, one.to, cut(one.used), size, gap)
				}
			}
			refused(t, one.from, one.to, with(one.used, span(gap.At, gap.Size+unit)))
		}
	}
}

// TestHeapsLaidFull: blocks of all needs go where they fit best, till there is no room; some are taken out again.
func TestHeapsLaidFull(t *testing.T) {
	roll := dice(11)
	for range 40 {
		to := unit * roll(words/unit+1)
		from := unit * roll(to/unit+1)
		var used []api.Span
		for range 300 {
			need, _ := Need(1 + roll(1+roll(lastLen)))
			l, _ := Gaps(from, to, used)
			gap, is := Best(l, need)
			if is {
				used = with(used, span(gap.At, need))
			} else if slices.ContainsFunc(l, func(s api.Span) bool { return s.Size >= need }) {
				t.Fatalf("Best(%v, %d) tells none", cut(l), need)
			}
			if len(used) > 0 && roll(3) == 0 {
				k := roll(len(used))
				used = slices.Delete(used, k, k+1)
			}
			if !look(t, from, to, used) {
				t.Fatalf("%d, %d, %v are not right", from, to, cut(used))
			}
		}
	}
}

// TestBlocksGrownIntoGaps: what Behind tells is what a block may have more.
func TestBlocksGrownIntoGaps(t *testing.T) {
	for _, one := range rolledRows(12, 60) {
		for k := range one.used {
			more, _ := Behind(one.from, one.to, one.used, k)
			grown := slices.Clone(one.used)
			grown[k].Size += more
			if n, e := Behind(one.from, one.to, grown, k); n != 0 || e != api.OK {
				t.Fatalf("%d, %d, %v: block %d with %d words more: Behind = %d, %v", one.from, one.to, cut(one.used), k, more, n, e)
			}
			grown[k].Size += unit
			refused(t, one.from, one.to, grown)
		}
	}
}
