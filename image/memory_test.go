package image

import (
	"bytes"
	"slices"
	"testing"
	"unsafe"

	"joist/api"
)

// P19.4

const (
	spareOf = 70
	oddByte = 0xa5
)

// What stands in spare room: no call writes it, and one that went by it would answer otherwise.
func oddSlot() api.Slot { return api.Slot{Gen: 3, Live: true, At: 16, Len: 7} }

func oddRoot() api.Root {
	return api.Root{Name: "odd-one", To: api.Handle{Index: 5, Gen: 6}}
}

func oddRow() []byte { return []byte{oddByte, oddByte, oddByte} }

func odd() byte { return oddByte }

// spacious is a copy of l with spare room behind it.
func spacious[T any](l []T, spare func() T) []T {
	all := slices.Clone(l)
	for range spareOf {
		all = append(all, spare())
	}
	return all[:len(l):len(all)]
}

// roomy is a copy of s with spare room behind each of its rows.
func roomy(s api.State) api.State {
	s = own(s)
	for k, b := range s.Data {
		s.Data[k] = spacious(b, odd)
	}
	s.Slots, s.Roots, s.Data = spacious(s.Slots, oddSlot), spacious(s.Roots, oddRoot), spacious(s.Data, oddRow)
	return s
}

// whole is s with its rows' spare room as parts of them.
func whole(s api.State) api.State {
	s.Slots, s.Roots, s.Data = s.Slots[:cap(s.Slots)], s.Roots[:cap(s.Roots)], slices.Clone(s.Data[:cap(s.Data)])
	for k, b := range s.Data {
		s.Data[k] = b[:cap(b)]
	}
	return s
}

// scribble writes over all of a state's rows and their spare room.
func scribble(s api.State) {
	all := whole(s)
	for _, b := range all.Data {
		scribbleBytes(b)
	}
	for k := range all.Slots {
		all.Slots[k] = api.Slot{Gen: -9, Live: true, Two: true, At: -9, Len: -9}
	}
	for k := range all.Roots {
		all.Roots[k] = api.Root{Name: "scribble", To: api.Handle{Index: -9, Gen: -9}}
	}
	rows := s.Data[:cap(s.Data)]
	for k := range rows {
		rows[k] = []byte("scribble")
	}
}

func scribbleBytes(b []byte) {
	b = b[:cap(b)]
	for i := range b {
		b[i] ^= 0xff
	}
}

// several are right states of all kinds, of small shapes.
func several() []api.State {
	l := rolled(51, 4, small(), full().Shape)
	for _, s := range named() {
		if s.Shape.Pages < 10 {
			l = append(l, s)
		}
	}
	return l
}

func TestEncodeChangesNothing(t *testing.T) {
	all := several()
	for _, s := range wrongStates() {
		all = append(all, s)
	}
	for _, was := range all {
		s := roomy(was)
		kept := own(whole(s))
		Encode(s)
		if !alike(s, was) || !alike(whole(s), kept) {
			t.Fatalf("%+v or its spare room is changed", cut(was))
		}
	}
}

func TestBytesAreNotChanged(t *testing.T) {
	for _, s := range several() {
		right := byHand(s)
		for _, was := range [][]byte{right, right[:len(right)-64], right[64:], over(right, 0, 0, []byte{1}), over(right, len(right)/64-1, 0, []byte{1}), right[:0]} {
			b, other := spacious(was, odd), spacious(right, odd)
			kept, otherKept := bytes.Clone(b[:cap(b)]), bytes.Clone(other[:cap(other)])
			Shape(b)
			Decode(b)
			Same(b, other)
			Same(other, b)
			Same(b, b)
			if !bytes.Equal(b[:cap(b)], kept) || !bytes.Equal(other[:cap(other)], otherKept) {
				t.Fatalf("bytes of %+v or their spare room are changed", cut(s))
			}
		}
	}
}

// TestAnswersGoByLength: spare room is no part of what is handed in.
func TestAnswersGoByLength(t *testing.T) {
	for _, was := range several() {
		want := byHand(was)
		if b := encodes(t, "spare room", roomy(was)); !bytes.Equal(b, want) {
			t.Fatal("spare room")
		}
		reads(t, "spare room", spacious(want, odd), was)
		sameIs(t, "spare room", spacious(want, odd), want, true)
		shapeIs(t, "spare room", spacious(want, odd), was.Shape, true)
		// A heap of which a line is spare room is none.
		short := spacious(want, odd)[:len(want)-lineBytes]
		corrupt(t, "a line is spare room", short)
		sameIs(t, "a line is spare room", short, want, false)
		shapeIs(t, "a line is spare room", short, api.Shape{}, false)
	}
}

// TestEncodeKeepsNothing: bytes stay as they were when the state is written over, and the state when the bytes are.
func TestEncodeKeepsNothing(t *testing.T) {
	for _, was := range several() {
		s := roomy(was)
		kept := own(whole(s))
		want := byHand(was)
		first, _ := Encode(s)
		second, _ := Encode(s)
		scribbleBytes(first)
		if !bytes.Equal(second, want) {
			t.Fatalf("two answers of Encode(%+v) share memory", cut(was))
		}
		if !alike(whole(s), kept) {
			t.Fatalf("the bytes of %+v share memory with it", cut(was))
		}
		scribble(s)
		if !bytes.Equal(second, want) {
			t.Fatalf("%+v shares memory with its bytes", cut(was))
		}
		encodes(t, "once more", was)
	}
}

func TestDecodeKeepsNothing(t *testing.T) {
	for _, want := range several() {
		b := spacious(byHand(want), odd)
		kept := bytes.Clone(b[:cap(b)])
		first, _ := Decode(b)
		second, _ := Decode(b)
		scribble(first)
		if !alike(second, want) {
			t.Fatalf("two answers of Decode of %+v share memory", cut(want))
		}
		if !bytes.Equal(b[:cap(b)], kept) {
			t.Fatalf("the state %+v shares memory with its bytes", cut(want))
		}
		scribbleBytes(b)
		if !alike(second, want) {
			t.Fatalf("the bytes of %+v share memory with it", cut(want))
		}
		corrupt(t, "scribbled", b)
		reads(t, "once more", byHand(want), want)
	}
}

// TestNamesAreNewMemory: a text can't be written over, so it is asked where its bytes lie.
func TestNamesAreNewMemory(t *testing.T) {
	b := byHand(full())
	first, _ := Decode(b)
	second, _ := Decode(b)
	from := uintptr(unsafe.Pointer(unsafe.SliceData(b)))
	for k := range first.Roots {
		one, other := first.Roots[k].Name, second.Roots[k].Name
		if one == "" {
			continue
		}
		at := uintptr(unsafe.Pointer(unsafe.StringData(one)))
		if at >= from && at < from+uintptr(len(b)) || unsafe.StringData(one) == unsafe.StringData(other) {
			t.Errorf("the name %s shares memory", one)
		}
	}
}

// TestRowsAreApart: no row of a state that is read reaches another one's bytes, not with its spare room either.
func TestRowsAreApart(t *testing.T) {
	for _, want := range several() {
		for k := range want.Data {
			s, e := Decode(byHand(want))
			if e != api.OK {
				t.Fatal(e)
			}
			scribbleBytes(s.Data[k])
			for i, row := range s.Data {
				if i != k && !bytes.Equal(row, want.Data[i]) {
					t.Fatalf("rows %d and %d of %+v share memory", i, k, cut(want))
				}
			}
			if !slices.Equal(s.Slots, want.Slots) || !slices.Equal(s.Roots, want.Roots) {
				t.Fatalf("row %d of %+v shares memory with slots or roots", k, cut(want))
			}
		}
	}
}

// TestSharedRowsHandedIn: rows that share memory with each other are laid out as if they did not.
func TestSharedRowsHandedIn(t *testing.T) {
	s := full()
	all := filling(9, 300)
	for k, row := range s.Data {
		s.Data[k] = all[:len(row)]
	}
	b := encodes(t, "shared rows", s)
	if !bytes.Equal(all, filling(9, 300)) {
		t.Error("the rows are changed")
	}
	reads(t, "shared rows", b, s)
}

// TestEmptyAndNilRows are alike, handed in (W5).
func TestEmptyAndNilRows(t *testing.T) {
	for _, was := range several() {
		s := own(was)
		for k, row := range s.Data {
			if len(row) == 0 {
				s.Data[k] = []byte{}
				if k%2 == 0 {
					s.Data[k] = filling(k, 9)[:0]
				}
			}
		}
		b := encodes(t, "empty rows", s)
		if !bytes.Equal(b, byHand(was)) {
			t.Fatalf("%+v with empty rows has other bytes", cut(was))
		}
	}
	for _, b := range [][]byte{nil, {}, full().Data[1][:0]} {
		corrupt(t, "no bytes", b)
		shapeIs(t, "no bytes", b, api.Shape{}, false)
	}
}
