package wal

import (
	"bytes"
	"slices"
	"testing"

	"joist/api"
	"joist/pmem"
)

// P5.6

// spare is how many bytes or changes stand behind those that are handed in.
const spare = 130

// roomy is a copy of b with spare room behind it, all of its bytes 0xee.
func roomy(b []byte) []byte {
	all := make([]byte, len(b)+spare)
	for i := range all[copy(all, b):] {
		all[len(b)+i] = 0xee
	}
	return all[:len(b)]
}

// roomyChanges are copies of changes with spare room behind the list and behind each one's bytes.
func roomyChanges(l []api.Change) []api.Change {
	all := make([]api.Change, 0, len(l)+spare)
	for _, c := range l {
		all = append(all, api.Change{Line: c.Line, B: roomy(c.B)})
	}
	for range spare {
		all = append(all, to(77, 0xee))
	}
	return all[:len(l)]
}

func untouched(b, was []byte) bool {
	return bytes.Equal(b, was) && bytes.Equal(b[len(b):cap(b)], bytes.Repeat([]byte{0xee}, spare))
}

func untouchedChanges(l, was []api.Change) bool {
	if !equal(l, was) {
		return false
	}
	for i, c := range l {
		if !untouched(c.B, was[i].B) {
			return false
		}
	}
	return equal(l[len(l):len(l)+spare], slices.Repeat([]api.Change{to(77, 0xee)}, spare))
}

// scribble writes over bytes, their spare room too.
func scribble(b []byte) {
	b = b[:cap(b)]
	for i := range b {
		b[i] = 0xcc
	}
}

// scribbleChanges writes over changes in all depths.
func scribbleChanges(l []api.Change) {
	for _, c := range l {
		scribble(c.B)
	}
	l = l[:cap(l)]
	for i := range l {
		l[i] = to(99, 0xcc)
	}
}

func TestNothingHandedInIsChanged(t *testing.T) {
	g := api.Log{Mark: 1, First: 2, Room: 2}
	lists := append(wrongChanges(8), nil, tos(0), tos(0, 7), tos(0, 6, 7), tos(1), tos(0, 3), tos(8), tos(4095))
	for _, was := range lists {
		for _, log := range []api.Log{g, {Mark: 7, First: 2, Room: 1}, {}, {Mark: 1, First: 2, Room: 2047}} {
			l := roomyChanges(was)
			Write(log, l)
			for step := range 16 {
				d := device(t, make([]byte, 8*size))
				d.Arm(step)
				Commit(d, log, l)
			}
			Commit(downed(t, row(8*size)), log, l)
			if !untouchedChanges(l, was) {
				t.Errorf("%v: what was handed in is changed", was)
			}
		}
	}
	for _, was := range [][]byte{nil, row(63), make([]byte, 8*size), row(8 * size), written(row(8*size), g, tos(0, 7)...), written(row(8*size), g, tos(7, 0)...), written(row(8*size), g, tos(8)...), row(8*size + 1), written(row(6*size), g)} {
		image := roomy(was)
		Read(g, image)
		Read(api.Log{}, image)
		if !untouched(image, was) {
			t.Errorf("%d bytes: what was handed in is changed", len(was))
		}
	}
}

func TestAnswersAreNewMemory(t *testing.T) {
	g := api.Log{Mark: 1, First: 2, Room: 3}
	for _, was := range [][]api.Change{nil, tos(0), tos(0, 10), tos(0, 10, 11)} {
		l := roomyChanges(was)
		records, mark, _ := Write(g, l)
		want := recordsOf(was...)
		scribble(records)
		if !untouchedChanges(l, was) || !bytes.Equal(mark, markFor(want)) {
			t.Errorf("%d records share memory with the changes or the mark", len(was))
		}
		records, mark, _ = Write(g, l)
		scribble(mark)
		if !untouchedChanges(l, was) || !bytes.Equal(records, want) {
			t.Errorf("a mark of %d shares memory with the changes or the records", len(was))
		}
		whole := written(row(12*size), g, was...)
		image := roomy(whole)
		read, _ := Read(g, image)
		scribbleChanges(read)
		if !untouched(image, whole) {
			t.Errorf("%d changes share memory with the image", len(was))
		}
	}
}

func TestListsOfOneAnswerShareNothing(t *testing.T) {
	g := api.Log{Mark: 1, First: 2, Room: 3}
	image := written(row(12*size), g, tos(0, 10, 11)...)
	want := tos(0, 10, 11)
	for i := range want {
		l, _ := Read(g, image)
		scribble(l[i].B)
		l[i] = want[i]
		if !equal(l, want) {
			t.Errorf("change %d shares memory with another one", i)
		}
		l, _ = Read(g, image)
		if longer := append(l[i].B, 0xcc); len(longer) != size+1 || !equal(l, want) {
			t.Errorf("what is put behind change %d is in another one", i)
		}
	}
}

func TestNothingIsKept(t *testing.T) {
	g := api.Log{Mark: 1, First: 2, Room: 3}
	was := tos(0, 10, 11)
	want := recordsOf(was...)
	l := roomyChanges(was)
	records, mark, _ := Write(g, l)
	otherRecords, otherMark, _ := Write(g, l)
	scribbleChanges(l)
	scribble(otherRecords)
	scribble(otherMark)
	if !bytes.Equal(records, want) || !bytes.Equal(mark, markFor(want)) {
		t.Error("what Write answered changed with its arguments, or with another answer")
	}
	again, none, _ := Write(g, nil)
	scribble(again)
	scribble(none)
	if _, none, _ := Write(g, nil); !bytes.Equal(none, make([]byte, 64)) {
		t.Error("a mark of no records is kept")
	}
	image := roomy(written(row(12*size), g, was...))
	first, _ := Read(g, image)
	second, _ := Read(g, image)
	scribble(image)
	scribbleChanges(second)
	if !equal(first, was) {
		t.Error("what Read answered changed with its arguments, or with another answer")
	}
}

func TestDeviceKeepsNothing(t *testing.T) {
	g := api.Log{Mark: 1, First: 2, Room: 3}
	was := tos(0, 10, 11)
	for step := range 20 {
		l := roomyChanges(was)
		d, other := device(t, make([]byte, 12*size)), device(t, make([]byte, 12*size))
		d.Arm(step)
		other.Arm(step)
		if Commit(d, g, l) != Commit(other, g, deep(was)) {
			t.Errorf("step %d: the same call told something else", step)
		}
		scribbleChanges(l)
		alike(t, "its changes written over", d, other)
		d.Crash(slices.Repeat([]bool{true}, 12))
		other.Crash(slices.Repeat([]bool{true}, 12))
		n, e := Recover(d, g)
		if k, f := Recover(other, g); n != k || e != f {
			t.Errorf("step %d: Recover = %d, %v, and %d, %v", step, n, e, k, f)
		}
		alike(t, "recovered", d, other)
	}
}

// W2: the same calls come to the same, though a device's lines are in a map.
func TestSameEachTime(t *testing.T) {
	g := api.Log{Mark: 1, First: 2, Room: 3}
	for step := range 18 {
		var first *pmem.Device
		for range 10 {
			d := device(t, make([]byte, 12*size))
			d.Arm(step)
			Commit(d, g, tos(0, 10, 11))
			d.Crash([]bool{false, true, true, false, true})
			Recover(d, g)
			if first == nil {
				first = d
			}
			alike(t, "the same calls", d, first)
		}
	}
}
