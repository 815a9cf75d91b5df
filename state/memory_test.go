package state

import (
	"bytes"
	"slices"
	"testing"
	"unsafe"

	"joist/api"
)

// P18.4

const (
	spareOf = 40
	oddByte = 0xa5
)

// What stands in spare room: no call writes it, and one that went by it would answer otherwise.
func oddSlot() api.Slot { return api.Slot{Gen: 3, Live: true, At: 16, Len: 7} }

func oddRoot() api.Root {
	return api.Root{Name: "odd-one", To: api.Handle{Index: 5, Gen: 6}}
}

func oddRow() []byte { return []byte{oddByte, oddByte, oddByte} }

// spacious is a copy of l with spare room behind it.
func spacious[T any](l []T, spare func() T) []T {
	all := slices.Clone(l)
	for range spareOf {
		all = append(all, spare())
	}
	return all[:len(l):len(all)]
}

// roomy is a copy of s with spare room behind each of its rows.
func roomy(s api.State) api.State {
	s = own(s)
	for k, b := range s.Data {
		s.Data[k] = spacious(b, func() byte { return oddByte })
	}
	s.Slots, s.Roots, s.Data = spacious(s.Slots, oddSlot), spacious(s.Roots, oddRoot), spacious(s.Data, oddRow)
	return s
}

// whole is s with its rows' spare room as parts of them, as far as it goes.
func whole(s api.State) api.State {
	s.Slots, s.Roots, s.Data = s.Slots[:cap(s.Slots)], s.Roots[:cap(s.Roots)], slices.Clone(s.Data[:cap(s.Data)])
	for k, b := range s.Data {
		s.Data[k] = b[:cap(b)]
	}
	return s
}

// scribble writes over all of a state's rows and their spare room.
func scribble(s api.State) {
	all := whole(s)
	for _, b := range all.Data {
		for i := range b {
			b[i] ^= 0xff
		}
	}
	for k := range all.Slots {
		all.Slots[k] = api.Slot{Gen: -9, Live: true, Two: true, At: -9, Len: -9}
	}
	for k := range all.Roots {
		all.Roots[k] = api.Root{Name: "scribble", To: api.Handle{Index: -9, Gen: -9}}
	}
	rows := s.Data[:cap(s.Data)]
	for k := range rows {
		rows[k] = []byte("scribble")
	}
}

// askAll makes each call that takes a state.
func askAll(s, other api.State) {
	Right(s)
	Ones(s)
	Twos(s)
	Same(s, other)
	Same(other, s)
	Same(s, s)
	Copy(s)
	Live(s)
}

// states are right ones and others.
func states(seed uint32, times int) []api.State {
	return append(append(rolled(seed, times), wrongStates()...), full(), laid(full(), false, 0, 64, 300, 3, 64, 9))
}

// TestNothingHandedInIsChanged: not the rows, not what is in them, not their spare room.
func TestNothingHandedInIsChanged(t *testing.T) {
	for _, was := range states(41, 8) {
		s, other := roomy(was), roomy(was)
		kept := own(whole(s))
		askAll(s, other)
		if !alike(s, was) || !alike(whole(s), kept) || !alike(whole(other), kept) {
			t.Fatalf("%+v or its spare room is changed", was)
		}
	}
}

// TestAnswersGoByLength: spare room is no part of a state.
func TestAnswersGoByLength(t *testing.T) {
	for _, was := range states(42, 8) {
		s := roomy(was)
		look(t, s)
		lookObjects(t, s)
		same(t, "spare room", s, was)
		if c := Copy(s); !alike(c, was) {
			t.Fatalf("Copy(%+v) = %+v", was, c)
		}
	}
}

// TestNothingIsKept: an answer stays as it was, when what was handed in is written over, and what is asked then is of no more than what is handed in then.
func TestNothingIsKept(t *testing.T) {
	for _, was := range states(43, 8) {
		s := roomy(was)
		c := Copy(s)
		ones := Ones(s)
		twos, at := Twos(s)
		rightOnce := Right(s)
		scribble(s)
		if !alike(c, was) {
			t.Fatalf("Copy(%+v) shares memory", was)
		}
		wantTwos, wantAt := Twos(was)
		if !slices.Equal(ones, Ones(was)) || !slices.Equal(twos, wantTwos) || !slices.Equal(at, wantAt) {
			t.Fatalf("Ones or Twos(%+v) share memory", was)
		}
		if Right(s) || Right(was) != rightOnce {
			t.Fatalf("Right(%+v) keeps what was handed in", was)
		}
		if len(s.Slots)+len(s.Roots)+len(s.Data) > 0 {
			unlike(t, "written over", s, was)
		}
		lookObjects(t, was)
		lookObjects(t, s)
	}
}

// TestCopiesAreNewMemory: what was handed in, and other copies, stay as they were, when a copy and all its spare room are written over.
func TestCopiesAreNewMemory(t *testing.T) {
	for _, was := range states(44, 8) {
		s := roomy(was)
		kept := own(whole(s))
		first, second := Copy(s), Copy(s)
		scribble(first)
		if !alike(second, was) {
			t.Fatalf("two copies of %+v share memory", was)
		}
		if !alike(s, was) || !alike(whole(s), kept) {
			t.Fatalf("a copy of %+v shares memory with it", was)
		}
		third := Copy(second)
		scribble(second)
		if !alike(third, was) {
			t.Fatalf("a copy of a copy of %+v shares memory with it", was)
		}
	}
}

// TestRowsOfCopiesAreApart: each row of bytes has memory of its own, also where those that were handed in share it.
func TestRowsOfCopiesAreApart(t *testing.T) {
	shared := filling(1, 64)
	for _, rows := range [][][]byte{
		{shared, shared, shared[:32], shared[32:]}, {shared[:0], shared[:1], shared[1:2], shared[2:]}, {nil, {}, shared[:0], shared[64:]},
		{filling(1, 1), filling(2, 2), filling(3, 3)}, {shared[:5:5], shared[5:10:10], shared[3:8]},
	} {
		want := own(api.State{Data: rows})
		for k := range rows {
			c := Copy(api.State{Data: rows})
			b := c.Data[k][:cap(c.Data[k])]
			for i := range b {
				b[i] ^= 0xff
			}
			c.Data[k] = append(c.Data[k], 1, 2, 3)
			c.Data[k] = want.Data[k]
			if !alike(c, want) || !alike(api.State{Data: rows}, want) {
				t.Fatalf("row %d of a copy of %v shares memory", k, rows)
			}
		}
	}
}

// TestWhatIsPutBehindACopy: appending to any of its rows changes no other.
func TestWhatIsPutBehindACopy(t *testing.T) {
	for _, was := range states(45, 3) {
		s := roomy(was)
		kept := own(whole(s))
		c := Copy(s)
		for k := range c.Data {
			_ = append(c.Data[k], bytes.Repeat([]byte{1}, 20)...)
		}
		_, _, _ = append(c.Slots, api.Slot{Gen: 1}), append(c.Roots, api.Root{Name: "b"}), append(c.Data, []byte{1})
		if !alike(c, was) || !alike(whole(s), kept) {
			t.Fatalf("a copy of %+v shares memory", was)
		}
	}
}

// TestNamesOfCopiesAreNewMemory: W6 speaks of all memory, that of texts too.
func TestNamesOfCopiesAreNewMemory(t *testing.T) {
	s := full()
	s.Roots[0].Name, s.Roots[1].Name = string([]byte("first")), string([]byte("second"))
	first, second := Copy(s), Copy(s)
	for k := range s.Roots {
		p, q, r := unsafe.StringData(s.Roots[k].Name), unsafe.StringData(first.Roots[k].Name), unsafe.StringData(second.Roots[k].Name)
		if p == q || q == r || p == r {
			t.Errorf("root %d: copies share a name's memory", k)
		}
	}
	s.Roots[1].Name = s.Roots[0].Name
	c := Copy(s)
	if unsafe.StringData(c.Roots[0].Name) == unsafe.StringData(c.Roots[1].Name) {
		t.Error("two roots of a copy share a name's memory")
	}
}

// TestObjectsAreNewMemory: what was handed in, and other answers, stay as they were, when blocks, objects or slots and their spare room are written over.
func TestObjectsAreNewMemory(t *testing.T) {
	for _, was := range states(46, 8) {
		s := roomy(was)
		kept := own(whole(s))
		ones := Ones(s)
		for k := range ones[:cap(ones)] {
			ones[:cap(ones)][k] = block(-7, -7, -7)
		}
		twos, at := Twos(s)
		for k := range twos[:cap(twos)] {
			twos[:cap(twos)][k] = api.Object{At: -7, Len: -7}
		}
		if _, again := Twos(s); !slices.Equal(at, again) {
			t.Fatalf("objects and slots of %+v share memory", was)
		}
		for k := range at[:cap(at)] {
			at[:cap(at)][k] = -7
		}
		lookObjects(t, s)
		if !alike(whole(s), kept) {
			t.Fatalf("Ones or Twos(%+v) answer memory that was handed in", was)
		}
	}
}

// TestNewIsNewMemory: a state as at first stays so, when another one is written over.
func TestNewIsNewMemory(t *testing.T) {
	for _, shape := range shapes() {
		for mode, base := range map[int]int{modeOne: 0, modeTwo: shape.Pages} {
			first, _ := New(shape, mode)
			second, _ := New(shape, mode)
			scribble(first)
			if !alike(second, bare(shape, mode, base)) {
				t.Fatalf("two answers of New(%+v, %d) share memory", shape, mode)
			}
			newIs(t, shape, mode, base)
			for k := range second.Data {
				second.Data[k] = append(second.Data[k], byte(k))
			}
			for k, b := range second.Data {
				if !bytes.Equal(b, []byte{byte(k)}) {
					t.Fatalf("rows of New(%+v, %d) share memory", shape, mode)
				}
			}
			newIs(t, shape, mode, base)
		}
	}
}

// TestAnswersDoNotHangOnWhatWasAhead: refused calls and others between leave nothing behind.
func TestAnswersDoNotHangOnWhatWasAhead(t *testing.T) {
	for _, s := range states(47, 2) {
		newRefused(t, small(), modeUp)
		look(t, s)
		wrong(t, "zero", api.State{})
		lookObjects(t, s)
		newIs(t, small(), modeTwo, 4)
		same(t, "copy", s, Copy(s))
		unlike(t, "no state", s, api.State{Base: -1})
	}
}
