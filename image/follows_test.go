package image

import (
	"bytes"
	"testing"

	"joist/api"
	"joist/state"
)

// P19.5

// roundTrip goes to and fro, by the package's own calls alone.
func roundTrip(t *testing.T, what string, s api.State) {
	t.Helper()
	b, e := Encode(s)
	if e != api.OK {
		t.Fatalf("%s: Encode(%+v) tells %d", what, cut(s), e)
	}
	if shape, is := Shape(b); !is || shape != s.Shape {
		t.Fatalf("%s: Shape of the bytes of %+v is %+v, %v", what, cut(s), shape, is)
	}
	back, e := Decode(b)
	if e != api.OK || !state.Same(back, s) || !state.Right(back) {
		t.Fatalf("%s: Decode of the bytes of %+v tells %+v, %d", what, cut(s), cut(back), e)
	}
	again, e := Encode(back)
	if e != api.OK || !bytes.Equal(again, b) || !Same(again, b) {
		t.Fatalf("%s: Encode of what was read of %+v tells other bytes, %d", what, cut(s), e)
	}
}

func TestWhatIsLaidOutIsRead(t *testing.T) {
	for what, s := range named() {
		roundTrip(t, what, s)
	}
	for _, s := range rolled(61, 12, shapes()...) {
		roundTrip(t, "rolled", s)
	}
}

// TestEachLength: of each format, alone in its heap, and beside others.
func TestEachLength(t *testing.T) {
	shape := api.Shape{Pages: 12, Slots: 2, Roots: 2, Room: 1}
	for n := 1; n <= lastLen; n++ {
		if n > 300 && n%8 > 1 {
			continue
		}
		roundTrip(t, "format 1", laid(bare(shape, modeOne, 0), false, 1, 12, n))
		at := 32
		if n <= lastSmall {
			at = 36
		}
		roundTrip(t, "format 2", laid(bare(shape, modeTwo, 12), true, 1, at, n, 0, 4, 1))
	}
}

// TestEachPlace: each cell of each class, each unit of format 1, each page of a large one, at each border.
func TestEachPlace(t *testing.T) {
	shape := api.Shape{Pages: 3, Slots: 4, Roots: 2, Room: 1}
	for base := range 4 {
		for _, mode := range []int{modeUp, modeDown} {
			s := bare(shape, mode, base)
			for at := 32 * base; at < 96; at += 4 {
				roundTrip(t, "format 1", laid(s, false, 2, at, 13))
			}
			for page := range base {
				roundTrip(t, "a page", laid(s, true, 2, 32*page, 200))
				for class, l := range begins {
					for _, word := range l {
						more := laid(s, true, 2, 32*page+word, cellBytes[class])
						roundTrip(t, "a cell", more)
						if page > 0 {
							roundTrip(t, "beside a slab", laid(more, true, 0, l[len(l)-1], cellBytes[class]-1))
						}
					}
				}
			}
		}
	}
}

// TestAllCellsUsed: slabs of each class with all their cells, in turned order.
func TestAllCellsUsed(t *testing.T) {
	for class, l := range begins {
		s := bare(wide(), modeTwo, 64)
		for k := range 32 {
			i := 31 - k
			s = laid(s, true, k, 32*(2*(i/len(l)))+l[i%len(l)], cellBytes[class]-k%2)
		}
		if !state.Right(s) {
			t.Fatalf("class %d is not right", class)
		}
		encodes(t, "all cells", s)
		roundTrip(t, "all cells", s)
	}
}

// TestReadBytesAreLaidOut: bytes that are read, however they came to be, are those of the state that was read, but for the records' lines.
func TestReadBytesAreLaidOut(t *testing.T) {
	roll := dice(62)
	count := 0
	for _, was := range rolled(63, 6, small(), full().Shape) {
		clean := byHand(was)
		for range 60 {
			b := noisy(clean, was.Shape, roll)
			for range 1 + roll(2) {
				b[roll(len(b))] ^= byte(1 << roll(8))
			}
			s, e := Decode(b)
			if e != api.OK {
				continue
			}
			count++
			again, e := Encode(s)
			if e != api.OK || !Same(again, b) || !bytes.Equal(outside(again, s.Shape), outside(b, s.Shape)) {
				t.Fatalf("what was read, %+v, has other bytes, %d", cut(s), e)
			}
			if !bytes.Equal(again[128:128+128*s.Shape.Room], make([]byte, 128*s.Shape.Room)) {
				t.Fatalf("the records of %+v are not 0", cut(s))
			}
		}
	}
	if count < 500 {
		t.Errorf("%d were read", count)
	}
}

// P19.6

// apart holds the bytes of unlike states against each other.
func apart(t *testing.T, what string, a, b api.State) {
	t.Helper()
	if alike(a, b) {
		t.Fatalf("%s: %+v are alike", what, cut(a))
	}
	one, e := Encode(a)
	other, d := Encode(b)
	if e != api.OK || d != api.OK || bytes.Equal(one, other) || Same(one, other) {
		t.Fatalf("%s: %+v and %+v have the same bytes, %d, %d", what, cut(a), cut(b), e, d)
	}
}

// TestEachNumberTellsApart: two states that are right, unlike in one number.
func TestEachNumberTellsApart(t *testing.T) {
	for _, was := range []api.State{full(), bare(small(), modeUp, 2), spent(bare(small(), modeDown, 0)), zeroed(full())} {
		count := 0
		for i := range numbers(&was) {
			for n := range 400 {
				if n > 40 && n%4 > 0 && n != 301 {
					continue
				}
				s := own(was)
				of := numbers(&s)[i]
				if *of == n {
					continue
				}
				if *of = n; state.Right(s) {
					apart(t, "a number", was, s)
					count++
				}
			}
		}
		if count < 100 {
			t.Errorf("%d are right", count)
		}
	}
}

func TestEachByteTellsApart(t *testing.T) {
	was := full()
	for k, row := range was.Data {
		for i := range row {
			for _, turn := range []byte{1, 0x80, was.Data[k][i]} {
				s := own(was)
				s.Data[k][i] ^= turn
				apart(t, "a byte", was, s)
			}
		}
	}
}

// TestEachPartTellsApart: lengths of bytes 0, formats, names, roots' order, slots' order, modes, bases, shapes.
func TestEachPartTellsApart(t *testing.T) {
	was := zeroed(full())
	for what, turn := range map[string]func(*api.State){
		"a byte 0 more, format 1":       func(s *api.State) { s.Slots[1].Len, s.Data[1] = 6, make([]byte, 6) },
		"a byte 0 fewer, format 1":      func(s *api.State) { s.Slots[1].Len, s.Data[1] = 4, make([]byte, 4) },
		"a byte 0 more, format 2":       func(s *api.State) { s.Slots[2].Len, s.Data[2] = 21, make([]byte, 21) },
		"a byte 0 more, of a large one": func(s *api.State) { s.Slots[6].Len, s.Data[6] = 301, make([]byte, 301) },
		"a name":                        func(s *api.State) { s.Roots[1].Name = "a-è" },
		"a shorter name":                func(s *api.State) { s.Roots[1].Name = "a" },
		"a longer name":                 func(s *api.State) { s.Roots[1].Name = "a-éa" },
		"no name":                       func(s *api.State) { s.Roots[1] = api.Root{} },
		"a name more":                   func(s *api.State) { s.Roots[0].Name = "b" },
		"a root's handle":               func(s *api.State) { s.Roots[1].To.Index = 2 },
		"the roots' order":              func(s *api.State) { s.Roots[1], s.Roots[2] = s.Roots[2], s.Roots[1] },
		"a root elsewhere":              func(s *api.State) { s.Roots[1], s.Roots[0] = s.Roots[0], s.Roots[1] },
		"an object's slot":              func(s *api.State) { swapSlots(s, 1, 0) },
		"two objects' slots":            func(s *api.State) { swapSlots(s, 1, 2) },
		"a spent slot":                  func(s *api.State) { s.Slots[3].Gen = lastGen },
		"a slot's generation":           func(s *api.State) { s.Slots[7].Gen = 0 },
		"a dropped object":              func(s *api.State) { s.Slots[5], s.Data[5] = api.Slot{}, nil },
		"an object more":                func(s *api.State) { *s = with(*s, 3, false, 160, 1); clear(s.Data[3]) },
		"the way":                       func(s *api.State) { s.Mode = modeDown },
		"a record more":                 func(s *api.State) { s.Shape.Room = 3 },
		"a page more":                   func(s *api.State) { s.Shape.Pages = 9 },
		"two slots more": func(s *api.State) {
			s.Shape.Slots, s.Slots, s.Data = 10, append(s.Slots, make([]api.Slot, 2)...), append(s.Data, nil, nil)
		},
		"two roots more": func(s *api.State) { s.Shape.Roots, s.Roots = 6, append(s.Roots, make([]api.Root, 2)...) },
	} {
		apart(t, what, was, turned(was, turn))
	}
	for base := range 4 {
		apart(t, "a base", bare(small(), modeUp, base), bare(small(), modeUp, base+1))
		apart(t, "a way", bare(small(), modeUp, base), bare(small(), modeDown, base))
	}
	apart(t, "ModeOne and ModeUp", bare(small(), modeOne, 0), bare(small(), modeUp, 0))
	apart(t, "ModeTwo and ModeDown", bare(small(), modeTwo, 4), bare(small(), modeDown, 4))
	// One object of format 1 and of format 2, where the bytes of both may lie.
	apart(t, "a format", laid(bare(small(), modeDown, 0), false, 0, 32, 200), laid(bare(small(), modeDown, 4), true, 0, 32, 200))
}

func swapSlots(s *api.State, k, i int) {
	s.Slots[k], s.Slots[i] = s.Slots[i], s.Slots[k]
	s.Data[k], s.Data[i] = s.Data[i], s.Data[k]
}

// TestRolledStatesAreApart: each two that are unlike.
func TestRolledStatesAreApart(t *testing.T) {
	shape := api.Shape{Pages: 2, Slots: 2, Roots: 2, Room: 1}
	all := rolled(64, 40, shape)
	rows := make([][]byte, len(all))
	for k, s := range all {
		rows[k], _ = Encode(s)
	}
	unlike := 0
	for k := range all {
		for i := range k {
			is := alike(all[k], all[i])
			if Same(rows[k], rows[i]) != is || bytes.Equal(rows[k], rows[i]) != is {
				t.Fatalf("%+v and %+v: the same bytes are %v", cut(all[k]), cut(all[i]), !is)
			}
			if !is {
				unlike++
			}
		}
	}
	if unlike < 10000 {
		t.Errorf("%d pairs are unlike", unlike)
	}
}
