package shape

import (
	"bytes"
	"testing"

	"joist/api"
	"joist/pmem"
	"joist/roots"
	"joist/table"
	"joist/tree"
	"joist/wal"
)

// P16.3

// eachShape hands on all shapes of all sizes with a few Rooms, the least and the greatest among them, and their areas.
func eachShape(t *testing.T, hand func(api.Shape, api.Areas)) {
	t.Helper()
	eachSize(func(s api.Shape) {
		for _, room := range []int{1, 2, 17, mostRoom(s) - 1, mostRoom(s)} {
			s.Room = room
			a, e := Areas(s)
			if e != api.OK {
				t.Fatalf("Areas(%+v) tells %d", s, e)
			}
			hand(s, a)
		}
	})
}

// TestPartsLieBehindOneAnother: each part begins where the one ahead of it ends, and the last one ends with the last line.
func TestPartsLieBehindOneAnother(t *testing.T) {
	eachShape(t, func(s api.Shape, a api.Areas) {
		at := 1
		for _, part := range []struct{ first, size int }{
			{a.Log.Mark, 1},
			{a.Log.First, 2 * a.Log.Room},
			{a.Heads, 1},
			{a.Table, s.Slots / 2},
			{a.Roots, s.Roots / 2},
			{a.Tree, treeLines},
			{a.Heap, 4 * s.Pages},
		} {
			if part.first != at || part.size < 1 {
				t.Fatalf("%+v: a part of %d lines begins at %d, not at %d: %+v", s, part.size, part.first, at, a)
			}
			at += part.size
		}
		if a.Lines != at || at > mostLines {
			t.Fatalf("%+v: there are %d lines, not %d", s, a.Lines, at)
		}
	})
}

func TestLogIsRight(t *testing.T) {
	eachShape(t, func(s api.Shape, a api.Areas) {
		if a.Log.Room != s.Room || !wal.Right(a.Log, a.Lines) || !wal.Right(a.Log, mostLines) {
			t.Fatalf("%+v: the log %+v is not right for %d lines", s, a.Log, a.Lines)
		}
	})
}

// TestLogHasItsLinesAlone: they are the mark and what lies between it and the heads; all else is outside.
func TestLogHasItsLinesAlone(t *testing.T) {
	for _, s := range []api.Shape{small(), {Pages: 1, Slots: 2, Roots: 2, Room: 1}, {Pages: 64, Slots: 32, Roots: 8, Room: 1895}, {Pages: 1, Slots: 4, Roots: 2, Room: 2030}} {
		a, _ := Areas(s)
		for line := -3; line < a.Lines+3; line++ {
			mine := line >= 1 && line < a.Heads
			if wal.Mine(a.Log, line) != mine {
				t.Fatalf("%+v: line %d is one of the log's: %v", s, line, !mine)
			}
			if want := line >= 0 && line < a.Lines && (!mine || line == 1); Outside(s, line) != want {
				t.Fatalf("Outside(%+v, %d) is %v", s, line, !want)
			}
		}
	}
}

// TestPartsAreAsLargeAsTheirBytes: what the layers below write fits just into the lines between one part and the next.
func TestPartsAreAsLargeAsTheirBytes(t *testing.T) {
	sized := func(s api.Shape, what string, from, to, size int) {
		t.Helper()
		if (to-from)*64 != size {
			t.Fatalf("%+v: the %s has the lines %d to %d, but %d bytes", s, what, from, to, size)
		}
	}
	eachShape(t, func(s api.Shape, a api.Areas) {
		slots, _ := table.New(s.Slots)
		b, _ := table.Bytes(slots)
		sized(s, "table", a.Table, a.Roots, len(b))
		named, _ := roots.New(s.Roots)
		b, _ = roots.Bytes(named)
		sized(s, "roots", a.Roots, a.Tree, len(b))
		b, _ = tree.Write(s.Pages, tree.Nodes(mostPages), []api.Extent{{Size: s.Pages, Use: api.UseFree}})
		sized(s, "tree", a.Tree, a.Heap, len(b))
		sized(s, "heap", a.Heap, a.Lines, 256*s.Pages)
	})
}

// TestLogServesAllLines: on a device of just these lines each one that is not the log's can be brought to it, and no other.
func TestLogServesAllLines(t *testing.T) {
	for _, s := range []api.Shape{small(), {Pages: 1, Slots: 4, Roots: 2, Room: 2030}} {
		a, _ := Areas(s)
		d, e := pmem.New(make([]byte, 64*a.Lines))
		if e != api.OK {
			t.Fatalf("no device has %d lines", a.Lines)
		}
		for line := -1; line <= a.Lines; line++ {
			want := api.ErrArg
			if Outside(s, line) && line != a.Log.Mark {
				want = api.OK
			}
			c := api.Change{Line: line, B: bytes.Repeat([]byte{byte(line)}, 64)}
			if e := wal.Commit(d, a.Log, []api.Change{c}); e != want {
				t.Fatalf("%+v: Commit of line %d tells %d, not %d", s, line, e, want)
			}
		}
	}
}
