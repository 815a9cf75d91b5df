package model

import (
	"testing"

	"joist/api"
	"joist/state"
)

// P20.1: Of

// example is a state with something in each part; nothing in it must be right for Of.
func example() api.State {
	return api.State{
		Shape: api.Shape{Pages: 4, Slots: 4, Roots: 2, Room: 30}, Mode: api.ModeUp, Base: 2,
		Slots: []api.Slot{{Gen: 7}, {Gen: 300, Live: true, At: 64, Len: 5}, {Live: true, Two: true, At: 4, Len: 20}, {Gen: lastGen}},
		Roots: []api.Root{{}, root("a-é", 1, 300)},
		Data:  [][]byte{nil, filling(1, 5), filling(2, 20), nil},
	}
}

func TestOf(t *testing.T) {
	want := api.Abstract{Gens: []int{7, 300, 0, lastGen}, Data: [][]byte{nil, filling(1, 5), filling(2, 20), nil}, Roots: []api.Root{{}, root("a-é", 1, 300)}}
	ofIs(t, example(), want)
	if !Right(want) {
		t.Error("what a right state is, is not right")
	}
}

func ofIs(t *testing.T, s api.State, want api.Abstract) {
	t.Helper()
	if got := Of(s); !alike(got, want) {
		t.Fatalf("Of(%+v) = %+v, not %+v", s, got, want)
	}
}

// TestOfGoesByNoPlace: neither format, nor mode, nor places, nor the shape are to be seen.
func TestOfGoesByNoPlace(t *testing.T) {
	want := Of(example())
	for _, n := range append(far(), 0, 1, 2, 3, 4) {
		s := example()
		s.Mode, s.Base, s.Shape = n, n, api.Shape{Pages: n, Slots: n, Roots: n, Room: n}
		for k := range s.Slots {
			s.Slots[k].Two, s.Slots[k].At, s.Slots[k].Len = n%2 == 0, n, n
		}
		ofIs(t, s, want)
	}
}

// TestOfByLive: the bytes of a slot that is not live are none, those of a live one are all that its row has.
func TestOfByLive(t *testing.T) {
	for m := range 16 {
		s := example()
		want := api.Abstract{Gens: []int{7, 300, 0, lastGen}, Data: make([][]byte, 4), Roots: s.Roots}
		for k := range s.Slots {
			s.Data[k] = filling(k, 3+k)
			s.Slots[k].Live = m>>k&1 == 1
			if s.Slots[k].Live {
				want.Data[k] = filling(k, 3+k)
			}
		}
		ofIs(t, s, want)
	}
}

// TestOfMissingRows: a live slot without a row has no bytes; a row without a slot is none's.
func TestOfMissingRows(t *testing.T) {
	for n := range 8 {
		s := example()
		s.Data = nil
		want := api.Abstract{Gens: []int{7, 300, 0, lastGen}, Data: make([][]byte, 4), Roots: s.Roots}
		for k := range n {
			s.Data = append(s.Data, filling(k, 2+k))
			if k == 1 || k == 2 {
				want.Data[k] = filling(k, 2+k)
			}
		}
		ofIs(t, s, want)
		s.Slots = s.Slots[:2]
		want.Gens, want.Data = want.Gens[:2], want.Data[:2]
		ofIs(t, s, want)
		s.Slots = nil
		ofIs(t, s, api.Abstract{Roots: s.Roots})
	}
	s := example()
	s.Data[1], s.Data[2] = nil, []byte{}
	ofIs(t, s, api.Abstract{Gens: []int{7, 300, 0, lastGen}, Data: make([][]byte, 4), Roots: s.Roots})
}

// TestOfWrongStates: what a state says is told, also where it is not right.
func TestOfWrongStates(t *testing.T) {
	ofIs(t, api.State{}, api.Abstract{})
	ofIs(t, api.State{Data: [][]byte{{1}}}, api.Abstract{})
	for _, n := range append(far(), 0, lastGen) {
		s := example()
		s.Slots[1].Gen, s.Slots[3].Gen = n, n
		s.Roots = []api.Root{root("a b", n, n), root("", n, 1), root("a b", 2, n)}
		s.Data[1] = filling(3, lastLen+7)
		ofIs(t, s, api.Abstract{Gens: []int{7, n, 0, n}, Data: [][]byte{nil, filling(3, lastLen+7), filling(2, 20), nil}, Roots: s.Roots})
	}
	s := api.State{Slots: make([]api.Slot, 77), Roots: make([]api.Root, 33)}
	ofIs(t, s, bare(77, 33))
	for k := range s.Slots {
		s.Slots[k] = api.Slot{Gen: k, Live: k%3 == 0}
		s.Data = append(s.Data, filling(k, k))
	}
	want := bare(77, 33)
	for k := range want.Gens {
		want.Gens[k] = k
		if k%3 == 0 {
			want.Data[k] = filling(k, k)
		}
	}
	ofIs(t, s, want)
}

// TestOfRightStates: of a right state of each mode it is a right heap, in which each object has its bytes, wherever they lie.
func TestOfRightStates(t *testing.T) {
	shape := api.Shape{Pages: 4, Slots: 4, Roots: 2, Room: 30}
	for mode, base := range map[int]int{api.ModeOne: 0, api.ModeTwo: 4, api.ModeUp: 2, api.ModeDown: 2} {
		s := api.State{Shape: shape, Mode: mode, Base: base, Slots: make([]api.Slot, 4), Roots: make([]api.Root, 2), Data: make([][]byte, 4)}
		want := bare(4, 2)
		if !state.Right(s) || !Right(Of(s)) {
			t.Fatalf("%+v: right %v, its heap %v", s, state.Right(s), Right(Of(s)))
		}
		ofIs(t, s, want)
		s.Roots[1], want.Roots[1] = root("a", 2, 0), root("a", 2, 0)
		for k := range 3 {
			s.Slots[k].Gen, want.Gens[k] = 100*k, 100*k
			two := base == 4 || base == 2 && k == 1
			at := 96 + 4*k
			if two {
				at = 4 + 2*k
			}
			if k != 1 || base > 0 {
				s.Slots[k] = api.Slot{Gen: 100 * k, Live: true, Two: two, At: at, Len: 9 + k}
				s.Data[k], want.Data[k] = filling(k, 9+k), filling(k, 9+k)
			}
			if !state.Right(s) || !Right(Of(s)) {
				t.Fatalf("%+v: right %v, its heap %v", s, state.Right(s), Right(Of(s)))
			}
			ofIs(t, s, want)
		}
	}
}
