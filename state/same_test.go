package state

import (
	"bytes"
	"slices"
	"testing"

	"joist/api"
)

// P18.3

func same(t *testing.T, what string, a, b api.State) {
	t.Helper()
	if !Same(a, b) || !Same(b, a) {
		t.Fatalf("%s: Same(%+v, %+v) = false", what, a, b)
	}
}

func unlike(t *testing.T, what string, a, b api.State) {
	t.Helper()
	if Same(a, b) || Same(b, a) {
		t.Fatalf("%s: Same(%+v, %+v) = true", what, a, b)
	}
}

// full has something in each of its parts; it is right.
func full() api.State {
	s := bare(small(), modeUp, 2)
	s = laid(s, false, 1, 64, 5)
	s = laid(s, true, 2, 4, 20)
	s.Slots[0].Gen, s.Slots[1].Gen, s.Slots[3].Gen = 7, 300, lastGen
	s.Roots[1] = api.Root{Name: "a-é", To: api.Handle{Index: 1, Gen: 300}}
	return s
}

// numbers are all of a state's.
func numbers(s *api.State) map[string]*int {
	l := map[string]*int{
		"Pages": &s.Shape.Pages, "Slots": &s.Shape.Slots, "Roots": &s.Shape.Roots, "Room": &s.Shape.Room, "Mode": &s.Mode, "Base": &s.Base,
	}
	for k := range s.Slots {
		name := string(rune('0' + k))
		l["Gen "+name], l["At "+name], l["Len "+name] = &s.Slots[k].Gen, &s.Slots[k].At, &s.Slots[k].Len
	}
	for k := range s.Roots {
		name := string(rune('0' + k))
		l["To.Index "+name], l["To.Gen "+name] = &s.Roots[k].To.Index, &s.Roots[k].To.Gen
	}
	return l
}

func TestEachNumberTellsApart(t *testing.T) {
	for _, was := range []api.State{full(), bare(small(), modeOne, 0), bare(small(), modeTwo, 4), {Slots: make([]api.Slot, 3), Roots: make([]api.Root, 2)}} {
		for name := range numbers(&was) {
			for _, n := range append(far(), -1, 0, 1, 2) {
				s := own(was)
				of := numbers(&s)[name]
				if *of == n {
					continue
				}
				*of = n
				unlike(t, name, was, s)
				same(t, name, s, own(s))
			}
		}
	}
}

func TestEachFlagTellsApart(t *testing.T) {
	was := full()
	for k := range was.Slots {
		s := own(was)
		s.Slots[k].Live = !s.Slots[k].Live
		unlike(t, "Live", was, s)
		s = own(was)
		s.Slots[k].Two = !s.Slots[k].Two
		unlike(t, "Two", was, s)
	}
}

func TestNamesTellApart(t *testing.T) {
	was := full()
	for _, name := range []string{"", "a", "a-e", "A-É", "a-é ", "a-É", "a-e\u0301", "a-\xc3", "a-é\x00", "b-é"} {
		s := own(was)
		s.Roots[1].Name = name
		unlike(t, "Name", was, s)
	}
	s := own(was)
	s.Roots[0].Name = "x"
	unlike(t, "Name", was, s)
	s = own(was)
	s.Roots[0], s.Roots[1] = s.Roots[1], s.Roots[0]
	unlike(t, "roots' order", was, s)
	s = own(was)
	s.Roots[1].Name = string([]byte("a-é"))
	same(t, "the same name elsewhere", was, s)
}

func TestEachByteTellsApart(t *testing.T) {
	was := full()
	for k, row := range was.Data {
		for i := range row {
			for turn := 1; turn < 256; turn++ {
				s := own(was)
				s.Data[k][i] ^= byte(turn)
				unlike(t, "a byte", was, s)
			}
		}
		s := own(was)
		s.Data[k] = append(s.Data[k], 0)
		unlike(t, "a byte more", was, s)
		if len(row) > 0 {
			s = own(was)
			s.Data[k] = row[:len(row)-1]
			unlike(t, "a byte fewer", was, s)
			s.Data[k] = row[1:]
			unlike(t, "a byte fewer ahead", was, s)
			s.Data[k] = nil
			unlike(t, "no bytes", was, s)
			s.Data[k] = make([]byte, len(row))
			unlike(t, "bytes 0", was, s)
		}
		for i := range was.Data {
			if len(was.Data[i]) != len(row) {
				s = own(was)
				s.Data[k], s.Data[i] = s.Data[i], s.Data[k]
				unlike(t, "data's order", was, s)
			}
		}
	}
}

// TestRowsTellApart: one more or one fewer that is zero is another state.
func TestRowsTellApart(t *testing.T) {
	for _, was := range []api.State{full(), bare(small(), modeOne, 0), {}} {
		for _, by := range []int{-4, -2, -1, 1, 2} {
			s := own(was)
			if s.Slots = resized(s.Slots, by); len(s.Slots) != len(was.Slots) {
				unlike(t, "slots", was, s)
			}
			s = own(was)
			if s.Roots = resized(s.Roots, by); len(s.Roots) != len(was.Roots) {
				unlike(t, "roots", was, s)
			}
			s = own(was)
			if s.Data = resized(s.Data, by); len(s.Data) != len(was.Data) {
				unlike(t, "data", was, s)
			}
		}
		s := own(was)
		s.Slots = nil
		if len(was.Slots) > 0 {
			unlike(t, "no slots", was, s)
		}
		s = own(was)
		slices.Reverse(s.Slots)
		if !slices.Equal(s.Slots, was.Slots) {
			unlike(t, "slots' order", was, s)
		}
	}
}

// TestEmptyRowsAreAlike: nil or not, with spare room or none, in all depths.
func TestEmptyRowsAreAlike(t *testing.T) {
	none := api.State{}
	empty := api.State{Slots: []api.Slot{}, Roots: []api.Root{}, Data: [][]byte{}}
	spare := api.State{Slots: make([]api.Slot, 3)[:0], Roots: full().Roots[:0], Data: full().Data[:0]}
	for _, a := range []api.State{none, empty, spare} {
		for _, b := range []api.State{none, empty, spare} {
			same(t, "empty rows", a, b)
		}
	}
	rows := [][]byte{nil, {}, make([]byte, 5)[:0], bytes.Repeat([]byte{9}, 5)[3:3]}
	for _, a := range rows {
		for _, b := range rows {
			first, second := full(), full()
			first.Data[0], second.Data[0] = a, b
			same(t, "empty data", first, second)
			first.Data, second.Data = [][]byte{a}, [][]byte{b}
			same(t, "empty data", first, second)
			second.Data = nil
			unlike(t, "an empty row and none", first, second)
			second.Data = [][]byte{b, a}
			unlike(t, "an empty row and two", first, second)
		}
	}
}

// TestSameGoesByLength: what stands in spare room is no part of a state.
func TestSameGoesByLength(t *testing.T) {
	for _, was := range []api.State{full(), bare(small(), modeTwo, 4)} {
		s := own(was)
		s.Slots = append(s.Slots, api.Slot{Gen: 9})[:len(s.Slots)]
		s.Roots = append(s.Roots, api.Root{Name: "odd"})[:len(s.Roots)]
		s.Data = append(s.Data, []byte{1})[:len(s.Data)]
		for k, b := range s.Data {
			s.Data[k] = append(b, 5)[:len(b)]
		}
		same(t, "spare room", was, s)
	}
}

func TestSameOfRolledStates(t *testing.T) {
	all := rolled(31, 4)
	for i, a := range all {
		for k, b := range all {
			if want := i == k || alike(a, b); Same(a, b) != want {
				t.Fatalf("Same(%+v, %+v) = %v", cut(a), cut(b), !want)
			}
		}
		same(t, "in other memory", a, own(a))
	}
}

// wrongStates are not right, in many ways.
func wrongStates() []api.State {
	l := []api.State{
		{}, bare(small(), 9, -1),
		{Shape: api.Shape{Pages: -1}, Data: [][]byte{nil, {1, 2}, {}}},
		{Slots: make([]api.Slot, 50), Roots: []api.Root{{Name: "\xff"}, {Name: "a b", To: api.Handle{Index: -1}}}, Data: [][]byte{{1}}},
		laid(full(), false, 0, 64, 9, 3, 64, 2050),
	}
	s := full()
	s.Data = append(s.Data, filling(9, 9), nil)
	return append(l, s)
}

func TestCopyIsAlike(t *testing.T) {
	for _, s := range append(append(rolled(32, 5), wrongStates()...), full()) {
		if c := Copy(s); !alike(c, s) {
			t.Fatalf("Copy(%+v) = %+v", s, c)
		}
		if c := Copy(Copy(s)); !alike(c, s) {
			t.Fatalf("Copy of a Copy of %+v = %+v", s, c)
		}
	}
}

// TestCopyOfEmptyRows: each is as many as it was.
func TestCopyOfEmptyRows(t *testing.T) {
	for _, s := range []api.State{
		{}, {Slots: []api.Slot{}, Roots: []api.Root{}, Data: [][]byte{}}, {Data: [][]byte{{}}}, {Data: [][]byte{nil, {}, make([]byte, 9)[:0]}}, {Slots: make([]api.Slot, 4)[:0]},
	} {
		if c := Copy(s); !alike(c, s) {
			t.Errorf("Copy(%+v) = %+v", s, c)
		}
	}
}
