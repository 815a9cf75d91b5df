package pages

import (
	"slices"
	"testing"

	"joist/api"
)

// staysRight: with an object that Place told, the others' pages keep their kinds, and free ones that the new one does not have stay free.
func staysRight(t *testing.T, pages int, l []api.Object, n, at int) {
	t.Helper()
	was, _ := Kinds(pages, l)
	kinds, is := Kinds(pages, with(l, object(at, n)))
	if !is {
		t.Fatalf("%d, %v: with %d bytes at %d they are not right", pages, cut(l), n, at)
	}
	for p, kind := range kinds {
		mine := slices.Contains(Mates(pages, with(l, object(at, n)), p), len(l))
		if was[p] != free && kind != was[p] || was[p] == free && !mine && kind != free || mine && kind == free {
			t.Fatalf("%d, %v: with %d bytes at %d page %d is of kind %d, not %d", pages, cut(l), n, at, p, kind, was[p])
		}
	}
}

// noPlaceAtAll: whatever place an object of n bytes had, it would not be right there; and why.
func noPlaceAtAll(t *testing.T, pages int, l []api.Object, n int) {
	t.Helper()
	for at := -words; at <= (pages+1)*words; at++ {
		if _, is := Kinds(pages, with(l, object(at, n))); is {
			t.Fatalf("Place(%d, %v, %d) tells no room, but there is at %d", pages, cut(l), n, at)
		}
	}
	kinds, _ := Kinds(pages, l)
	if n <= lastSmall && slices.Contains(kinds, free) {
		t.Fatalf("Place(%d, %v, %d) tells no room, but a page is free", pages, cut(l), n)
	}
	for _, s := range Runs(kinds) {
		if n > lastSmall && s.Size*words*8 >= n {
			t.Fatalf("Place(%d, %v, %d) tells no room, but pages are free: %v", pages, cut(l), n, s)
		}
	}
}

// P13.6

func TestPlacedObjectsAreRight(t *testing.T) {
	for _, h := range rolledHeaps(61, 40) {
		for _, n := range lens() {
			if at, is := Place(h.pages, h.l, n); is {
				staysRight(t, h.pages, h.l, n, at)
			}
		}
	}
}

// P13.7

func TestNoRoomIsNone(t *testing.T) {
	told := 0
	for _, h := range rolledHeaps(62, 5) {
		for _, n := range []int{16, 24, 81, 121, 257, lastLen} {
			if at, is := Place(h.pages, h.l, n); !is {
				if at != 0 {
					t.Fatalf("Place(%d, %v, %d) = %d, false", h.pages, cut(h.l), n, at)
				}
				noPlaceAtAll(t, h.pages, h.l, n)
				told++
			}
		}
	}
	if told < 50 {
		t.Errorf("%d times no room was told", told)
	}
}

// Both: heaps into which objects of all sizes go, till there is no room for any; some are taken out again between.
func TestHeapsLaidFull(t *testing.T) {
	roll := dice(63)
	for _, pages := range []int{0, 1, 2, 3, 8, 17, 40, mostPages} {
		var l []api.Object
		for range 300 {
			n := 1 + roll(1+roll(lastLen))
			lookPlace(t, pages, l, n)
			if at, is := Place(pages, l, n); is {
				staysRight(t, pages, l, n, at)
				l = with(l, object(at, n))
			} else if pages <= 8 {
				noPlaceAtAll(t, pages, l, n)
			}
			if len(l) > 0 && roll(4) == 0 {
				k := roll(len(l))
				l = slices.Delete(l, k, k+1)
			}
		}
		for n := lastLen; n > 0; {
			at, is := Place(pages, l, n)
			if !is {
				n--
				continue
			}
			l = with(l, object(at, n))
			right(t, pages, l)
		}
		kinds, _ := Kinds(pages, l)
		if len(Runs(kinds)) != 0 {
			t.Errorf("%d pages, full: %v", pages, kinds)
		}
		noPlaceAtAll(t, pages, l, 1)
	}
}

// TestSmallOnesFillTheirSlabs: a heap takes as many of a class as it has cells, page by page, cell by cell.
func TestSmallOnesFillTheirSlabs(t *testing.T) {
	for class := range 6 {
		var l []api.Object
		for _, want := range fullOf(3, class) {
			goesTo(t, 3, l, mosts[class], want.At)
			l = with(l, want)
		}
		noRoom(t, 3, l, leasts[class])
		noRoom(t, 3, l, mosts[class])
	}
}
