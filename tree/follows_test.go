package tree

import (
	"bytes"
	"slices"
	"testing"

	"joist/api"
	"joist/pages"
)

// P14.6

// backAndForth: what is written is read, and what is read is written again as it was.
func backAndForth(t *testing.T, count int, l []api.Extent) {
	t.Helper()
	for room := Nodes(len(l)); room <= Nodes(mostPages); room++ {
		b, e := Write(count, room, l)
		if e != api.OK || len(b) != room*nodeSize {
			t.Fatalf("Write(%d, %d, %v): %d bytes, %v", count, room, l, len(b), e)
		}
		read, is := Read(count, b)
		if !is || !slices.Equal(read, l) {
			t.Fatalf("%d, %v in %d nodes is read as %v, %v", count, l, room, read, is)
		}
		again, e := Write(count, room, read)
		if e != api.OK || !bytes.Equal(again, b) {
			t.Fatalf("%d, %v in %d nodes is not written again as it was: %v", count, l, room, e)
		}
	}
}

// allRows goes over all extents that are right for so many pages.
func allRows(count int, ahead []api.Extent, look func([]api.Extent)) {
	at, free := 0, false
	if n := len(ahead); n > 0 {
		at, free = ahead[n-1].At+ahead[n-1].Size, ahead[n-1].Use == useFree
	}
	if at == count {
		look(ahead)
		return
	}
	with := func(size, use int) {
		allRows(count, append(slices.Clone(ahead), api.Extent{At: at, Size: size, Use: use}), look)
	}
	with(1, useSlab)
	for size := 1; at+size <= count; size++ {
		with(size, useLarge)
		if !free {
			with(size, useFree)
		}
	}
}

func TestAllSmallTreesAreRead(t *testing.T) {
	all := map[string][]api.Extent{}
	for count := range 5 {
		allRows(count, nil, func(l []api.Extent) {
			if !Right(count, l) {
				t.Fatalf("Right(%d, %v) = false", count, l)
			}
			backAndForth(t, count, l)
			b, _ := Write(count, 1, l)
			if other, is := all[string(b)]; is {
				t.Fatalf("%v and %v have the same bytes", l, other)
			}
			all[string(b)] = l
		})
	}
	if len(all) < 100 {
		t.Errorf("%d trees", len(all))
	}
}

func TestWrittenIsRead(t *testing.T) {
	for n := range mostPages + 1 {
		count, l := countRow(n)
		backAndForth(t, count, l)
	}
	for _, r := range rolledRows(61, 20) {
		backAndForth(t, r.pages, r.l)
	}
}

// TestExtentsOfKindsAreRight: and they say of each page what its kind says.
func TestExtentsOfKindsAreRight(t *testing.T) {
	roll := dice(146)
	for count := range mostPages + 1 {
		for range 20 {
			kinds := rolledKinds(roll, count)
			l, is := From(kinds)
			if !is || !Right(count, l) {
				t.Fatalf("From(%v) = %v, %v", kinds, l, is)
			}
			for _, x := range l {
				for page := x.At; page < x.At+x.Size; page++ {
					if kind := kinds[page]; (x.Use == useFree) != (kind == free) || (x.Use == useLarge) != (kind == first || kind == more) || (kind == first) != (x.Use == useLarge && page == x.At) {
						t.Fatalf("From(%v): page %d is in %v", kinds, page, x)
					}
				}
			}
			backAndForth(t, count, l)
		}
	}
}

// TestExtentsOfHeaps: the kinds of a heap's pages, as the layer below tells them.
func TestExtentsOfHeaps(t *testing.T) {
	roll := dice(147)
	for _, count := range []int{0, 1, 4, 20, mostPages} {
		var objects []api.Object
		for range 60 {
			n := 1 + roll(1+roll(2048))
			if at, is := pages.Place(count, objects, n); is {
				objects = append(objects, api.Object{At: at, Len: n})
			}
			if k := roll(3 + len(objects)); k < len(objects) && roll(2) == 0 {
				objects = slices.Delete(objects, k, k+1)
			}
			kinds, _ := pages.Kinds(count, objects)
			l, is := From(kinds)
			if !is || !Right(count, l) {
				t.Fatalf("From(%v) = %v, %v", kinds, l, is)
			}
			var frees []api.Span
			for _, x := range l {
				if x.Use == useFree {
					frees = append(frees, api.Span{At: x.At, Size: x.Size})
				}
			}
			if !slices.Equal(frees, pages.Runs(kinds)) {
				t.Fatalf("From(%v) = %v", kinds, l)
			}
		}
	}
}
