package tree

import (
	"bytes"
	"math"
	"slices"
	"testing"

	"joist/api"
)

// P14.5

const spareOf = 40

// roomy is a copy of l with spare room behind it.
func roomy[T any](l []T, spare T) []T {
	all := append(slices.Clone(l), slices.Repeat([]T{spare}, spareOf)...)
	return all[:len(l):len(all)]
}

// spareIs tells whether all that stands in l's spare room is as it was laid there.
func spareIs[T comparable](l []T, spare T) bool {
	return !slices.ContainsFunc(l[len(l):cap(l)], func(one T) bool { return one != spare })
}

// scribble writes over a list, its spare room too.
func scribble[T any](l []T, with T) {
	for k := range l[:cap(l)] {
		l[:cap(l)][k] = with
	}
}

// What stands in spare room: no call writes it, and one that went by it would answer otherwise.
const (
	oddKind = 3
	oddByte = 0xa5
)

func oddExtent() api.Extent { return api.Extent{At: -3, Size: 77, Use: -5} }

// rolledRow are extents, the kinds that they are of, and the bytes of their tree with some room.
type rolledRow struct {
	pages, room int
	kinds       []int
	l           []api.Extent
	b           []byte
}

func rolledRows(seed uint32, times int) []rolledRow {
	roll := dice(seed)
	var out []rolledRow
	for _, pages := range []int{0, 1, 2, 7, 8, 20, 49, 50, 63, 64} {
		for range times {
			r := rolledRow{pages: pages, kinds: rolledKinds(roll, pages)}
			if roll(3) == 0 {
				r.kinds = many(roll(7), pages) // as many extents as there can be
			}
			r.l, _ = wantFrom(r.kinds)
			need := int(wantNodes(len(r.l)))
			r.room = need + roll(mostNodes-need+1)
			r.b = wantBytes(r.room, r.l)
			out = append(out, r)
		}
	}
	return out
}

// look holds each call against what the row says.
func (r rolledRow) look(t *testing.T, kinds []int, l []api.Extent, b []byte) {
	t.Helper()
	lookFrom(t, kinds)
	if !Right(r.pages, l) {
		t.Fatalf("Right(%d, %v) = false", r.pages, l)
	}
	writes(t, r.pages, r.room, l, r.b)
	reads(t, r.pages, b, r.l)
	for _, x := range r.l {
		finds(t, r.pages, b, x.At, x)
		finds(t, r.pages, b, x.At+x.Size-1, x)
	}
	notFound(t, r.pages, b, r.pages)
}

func TestArgumentsAreNotChanged(t *testing.T) {
	for _, r := range rolledRows(51, 20) {
		kinds, l, b := roomy(r.kinds, oddKind), roomy(r.l, oddExtent()), roomy(r.b, oddByte)
		r.look(t, kinds, l, b)
		Right(r.pages+1, l)
		Write(r.pages+1, r.room, l)
		Write(r.pages, 0, l)
		Write(r.pages, math.MaxInt, l)
		Read(r.pages+1, b)
		Find(r.pages+1, b, 0)
		if !slices.Equal(kinds, r.kinds) || !spareIs(kinds, oddKind) {
			t.Fatalf("kinds %v or their spare room are changed", r.kinds)
		}
		if !slices.Equal(l, r.l) || !spareIs(l, oddExtent()) {
			t.Fatalf("extents %v or their spare room are changed", r.l)
		}
		if !bytes.Equal(b, r.b) || !spareIs(b, oddByte) {
			t.Fatalf("the bytes of %v or their spare room are changed", r.l)
		}
	}
}

// TestWrongArgumentsAreNotChanged: those that are refused, too.
func TestWrongArgumentsAreNotChanged(t *testing.T) {
	for _, was := range [][]int{{more}, {0, 8}, {free, free, -2}, many(free, 65), {first, more, 9}} {
		kinds := roomy(was, oddKind)
		From(kinds)
		if !slices.Equal(kinds, was) || !spareIs(kinds, oddKind) {
			t.Errorf("kinds %v or their spare room are changed", was)
		}
	}
	for _, one := range wrongRows() {
		l, was := roomy(one.l, oddExtent()), wantBytes(1, one.l)
		b := roomy(was, oddByte)
		Right(one.pages, l)
		Write(one.pages, mostNodes, l)
		Read(one.pages, b)
		Find(one.pages, b, 0)
		if !slices.Equal(l, one.l) || !spareIs(l, oddExtent()) || !bytes.Equal(b, was) || !spareIs(b, oddByte) {
			t.Errorf("%s: %d, %v: what is handed in is changed", one.what, one.pages, one.l)
		}
	}
}

// TestNothingIsKept: an answer stays as it was, when what was handed in is written over, and what is asked then is of no more than what is handed in then.
func TestNothingIsKept(t *testing.T) {
	for _, r := range rolledRows(52, 20) {
		kinds, l, b := roomy(r.kinds, oddKind), roomy(r.l, oddExtent()), roomy(r.b, oddByte)
		from, _ := From(kinds)
		written, _ := Write(r.pages, r.room, l)
		read, _ := Read(r.pages, b)
		scribble(kinds, 99)
		scribble(l, oddExtent())
		scribble(b, oddByte)
		if !slices.Equal(from, r.l) || !bytes.Equal(written, r.b) || !slices.Equal(read, r.l) {
			t.Fatalf("%v: an answer shares memory with what was handed in", r.l)
		}
		notRead(t, r.pages, b)
		if len(l) > 0 {
			lookFrom(t, kinds)
			notWritten(t, r.pages, r.room, l, api.ErrArg)
		}
		r.look(t, r.kinds, r.l, r.b)
	}
}

// TestAnswersAreNewMemory: other answers, what was handed in, and what is asked again, are as they were, when an answer and its spare room are written over.
func TestAnswersAreNewMemory(t *testing.T) {
	for _, r := range rolledRows(53, 20) {
		kinds, l, b := roomy(r.kinds, oddKind), roomy(r.l, oddExtent()), roomy(r.b, oddByte)
		from, _ := From(kinds)
		again, _ := From(kinds)
		scribble(from, oddExtent())
		written, _ := Write(r.pages, r.room, l)
		rewritten, _ := Write(r.pages, r.room, l)
		scribble(written, oddByte)
		read, _ := Read(r.pages, b)
		reread, _ := Read(r.pages, b)
		scribble(read, oddExtent())
		if !slices.Equal(again, r.l) || !bytes.Equal(rewritten, r.b) || !slices.Equal(reread, r.l) {
			t.Fatalf("%v: two answers share memory", r.l)
		}
		if !slices.Equal(kinds, r.kinds) || !spareIs(kinds, oddKind) || !slices.Equal(l, r.l) || !spareIs(l, oddExtent()) || !bytes.Equal(b, r.b) || !spareIs(b, oddByte) {
			t.Fatalf("%v: what is answered is memory that was handed in", r.l)
		}
		r.look(t, kinds, l, b)
	}
}
