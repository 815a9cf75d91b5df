package pages

import (
	"slices"
	"testing"

	"joist/api"
)

// P13.5

const spareOf = 40

const oddKind = -80

// odd is what stands in spare room: no call writes it. One that went by it would find an object there that is right.
func odd() api.Object { return api.Object{At: 4, Len: 16} }

// roomy is a copy of l with spare room behind it.
func roomy[T any](l []T, spare T) []T {
	all := append(slices.Clone(l), slices.Repeat([]T{spare}, spareOf)...)
	return all[:len(l):len(all)]
}

// spareIs tells whether all that stands in l's spare room is as it was laid there.
func spareIs[T comparable](l []T, spare T) bool {
	return !slices.ContainsFunc(l[len(l):cap(l)], func(one T) bool { return one != spare })
}

// scribble writes over a list, its spare room too.
func scribble[T any](l []T, with T) {
	for k := range l[:cap(l)] {
		l[:cap(l)][k] = with
	}
}

// wrongHeaps are heaps that are refused.
func wrongHeaps() []rolled {
	return []rolled{
		{-1, nil}, {65, row(4, 16)}, {4, row(4, 16, 4, 16)}, {4, row(4, 16, 7, 17)}, {4, row(0, 300, 32, 121)}, {4, row(4, 16, 96, 300)},
		{1, row(4, 0)}, {0, row(4, 16)}, {4, row(3, 16)}, {4, row(-32, 300)}, {4, row(4, 16, 36, 2049)},
	}
}

// askAll makes each call that takes objects.
func askAll(pages int, l []api.Object) {
	Kinds(pages, l)
	for _, n := range append(lens(), -1, 0, lastLen+1) {
		Place(pages, l, n)
	}
	for p := -1; p <= pages && p <= mostPages; p++ {
		Mates(pages, l, p)
	}
}

func TestObjectsAreNotChanged(t *testing.T) {
	for _, h := range append(rolledHeaps(51, 30), wrongHeaps()...) {
		l := roomy(h.l, odd())
		askAll(h.pages, l)
		if !slices.Equal(l, h.l) || !spareIs(l, odd()) {
			t.Fatalf("%d, %v: objects or their spare room are changed", h.pages, cut(h.l))
		}
	}
}

func TestKindsAreNotChanged(t *testing.T) {
	for _, h := range rolledHeaps(52, 60) {
		was, _ := Kinds(h.pages, h.l)
		for _, spare := range []int{oddKind, free} {
			kinds := roomy(was, spare)
			lookRuns(t, kinds)
			for n := -1; n <= len(kinds)+1; n++ {
				lookBest(t, kinds, n)
			}
			if !slices.Equal(kinds, was) || !spareIs(kinds, spare) {
				t.Fatalf("%v or its spare room is changed", was)
			}
		}
	}
}

// TestNothingIsKept: an answer stays as it was, when what was handed in is written over, and what is asked then is of no more than what is handed in then.
func TestNothingIsKept(t *testing.T) {
	for _, h := range rolledHeaps(53, 30) {
		l := roomy(h.l, odd())
		want, _ := reckon(h.pages, h.l)
		kinds, _ := Kinds(h.pages, l)
		var mates [][]int
		for p := range h.pages {
			mates = append(mates, Mates(h.pages, l, p))
		}
		scribble(l, object(-1, -1))
		if !slices.Equal(kinds, want) {
			t.Fatalf("Kinds(%d, %v) shares memory", h.pages, cut(h.l))
		}
		for p, m := range mates {
			if !slices.Equal(m, wantMates(h.pages, h.l, p)) {
				t.Fatalf("Mates(%d, %v, %d) shares memory", h.pages, cut(h.l), p)
			}
		}
		if len(l) > 0 {
			refused(t, h.pages, l)
		}
		right(t, h.pages, h.l)
		runs := Runs(kinds)
		scribble(kinds, oddKind)
		if !slices.Equal(runs, rows(want)) {
			t.Fatalf("Runs(%v) shares memory", want)
		}
	}
}

// TestAnswersAreNewMemory: other answers, and what is asked again, are as they were, when an answer and its spare room are written over.
func TestAnswersAreNewMemory(t *testing.T) {
	for _, h := range rolledHeaps(54, 30) {
		l := roomy(h.l, odd())
		want, _ := reckon(h.pages, h.l)
		one, _ := Kinds(h.pages, l)
		two, _ := Kinds(h.pages, l)
		scribble(one, oddKind)
		if !slices.Equal(two, want) {
			t.Fatalf("two answers of Kinds(%d, %v) share memory", h.pages, cut(h.l))
		}
		kinds := roomy(want, free)
		oneRow, twoRow := Runs(kinds), Runs(kinds)
		scribble(oneRow, span(-7, -7))
		if !slices.Equal(twoRow, rows(want)) || !slices.Equal(kinds, want) || !spareIs(kinds, free) {
			t.Fatalf("Runs(%v) answers memory that is not new", want)
		}
		for p := range h.pages {
			oneMates, twoMates := Mates(h.pages, l, p), Mates(h.pages, l, p)
			scribble(oneMates, -9)
			if !slices.Equal(twoMates, wantMates(h.pages, h.l, p)) {
				t.Fatalf("two answers of Mates(%d, %v, %d) share memory", h.pages, cut(h.l), p)
			}
		}
		if !slices.Equal(l, h.l) || !spareIs(l, odd()) {
			t.Fatalf("%d, %v: what is answered is memory that was handed in", h.pages, cut(h.l))
		}
		right(t, h.pages, l)
	}
}
