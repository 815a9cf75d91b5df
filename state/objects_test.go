package state

import (
	"math"
	"slices"
	"testing"

	"joist/api"
)

// P18.2

// block are the numbers of one.
func block(at, size, index int) api.Block { return api.Block{At: at, Size: size, Index: index} }

// lookObjects holds Ones, Twos and Live against the tests' own reckoning: each block is put behind those that it rises above, one by one.
func lookObjects(t *testing.T, s api.State) {
	t.Helper()
	var ones []api.Block
	var twos []api.Object
	var at []int
	live := 0
	for k, slot := range s.Slots {
		if !slot.Live {
			continue
		}
		live++
		if slot.Two {
			twos, at = append(twos, api.Object{At: slot.At, Len: slot.Len}), append(at, k)
			continue
		}
		size := 0
		if slot.Len > 0 && slot.Len < lastLen+1 {
			size = need(slot.Len)
		}
		i := len(ones)
		for i > 0 && ones[i-1].At > slot.At {
			i--
		}
		ones = slices.Insert(ones, i, block(slot.At, size, k))
	}
	onesAre(t, s, ones...)
	twosAre(t, s, twos, at)
	if n := Live(s); n != live {
		t.Fatalf("Live(%+v) = %d; want %d", cut(s), n, live)
	}
}

func onesAre(t *testing.T, s api.State, want ...api.Block) {
	t.Helper()
	if l := Ones(s); !slices.Equal(l, want) {
		t.Fatalf("Ones(%+v) = %v; want %v", cut(s), l, want)
	}
}

func twosAre(t *testing.T, s api.State, want []api.Object, slots []int) {
	t.Helper()
	if l, at := Twos(s); !slices.Equal(l, want) || !slices.Equal(at, slots) {
		t.Fatalf("Twos(%+v) = %v, %v; want %v, %v", cut(s), l, at, want, slots)
	}
}

func TestObjectsByHand(t *testing.T) {
	s := bare(api.Shape{Pages: 4, Slots: 6, Roots: 2, Room: 30}, modeUp, 2)
	lookObjects(t, s)
	onesAre(t, s)
	twosAre(t, s, nil, nil)
	s = laid(s, false, 1, 100, 17, 4, 64, 1, 3, 72, 48)
	s = laid(s, true, 5, 4, 16, 0, 32, 200)
	right(t, "both formats", s)
	lookObjects(t, s)
	onesAre(t, s, block(64, 4, 4), block(72, 8, 3), block(100, 8, 1))
	twosAre(t, s, []api.Object{{At: 32, Len: 200}, {At: 4, Len: 16}}, []int{0, 5})
	if n := Live(s); n != 5 {
		t.Errorf("Live = %d", n)
	}
}

// TestSizesOfBlocks: of each Len, and of those that are none.
func TestSizesOfBlocks(t *testing.T) {
	for n := -20; n <= lastLen+20; n++ {
		s := laid(bare(small(), modeOne, 0), false, 2, 8, n)
		want := 0
		if n >= 1 && n <= lastLen {
			want = need(n)
		}
		onesAre(t, s, block(8, want, 2))
	}
	for _, n := range append(far(), 0, lastLen+1) {
		if n < 1 || n > lastLen {
			onesAre(t, laid(bare(small(), modeOne, 0), false, 0, 8, n), block(8, 0, 0))
		}
	}
	onesAre(t, laid(bare(small(), modeOne, 0), false, 0, 8, 1, 1, 20, 16, 2, 40, 17, 3, 80, lastLen), block(8, 4, 0), block(20, 4, 1), block(40, 8, 2), block(80, 260, 3))
}

// TestOfLengthsThatAreNone: blocks without words stand in their order, and objects of format 2 are told as they are.
func TestOfLengthsThatAreNone(t *testing.T) {
	s := laid(bare(small(), modeUp, 2), false, 0, 80, 0, 1, 72, -1, 2, 64, lastLen+1, 3, 68, 9)
	onesAre(t, s, block(64, 0, 2), block(68, 4, 3), block(72, 0, 1), block(80, 0, 0))
	s = laid(bare(small(), modeUp, 2), true, 0, 80, 0, 1, 72, -1, 2, math.MinInt, math.MaxInt, 3, 68, 9)
	twosAre(t, s, []api.Object{{At: 80}, {At: 72, Len: -1}, {At: math.MinInt, Len: math.MaxInt}, {At: 68, Len: 9}}, []int{0, 1, 2, 3})
	onesAre(t, s)
}

// TestBlocksRise: as numbers, from the least one to the greatest one, whatever their slots' order.
func TestBlocksRise(t *testing.T) {
	ats := append(far(), 0, 4, 5, 8, 100)
	roll := dice(21)
	for range 300 {
		s := api.State{Slots: make([]api.Slot, 2+roll(40))}
		for k := range s.Slots {
			s.Slots[k] = api.Slot{Live: true, At: ats[roll(len(ats))], Len: roll(20)}
		}
		lookObjects(t, s)
	}
	s := laid(bare(small(), modeOne, 0), false, 0, math.MaxInt, 1, 1, 0, 1, 2, math.MinInt, 1, 3, -1, 1)
	onesAre(t, s, block(math.MinInt, 4, 2), block(-1, 4, 3), block(0, 4, 1), block(math.MaxInt, 4, 0))
}

// TestAlikeBlocksByIndex: whatever their sizes; many of them, as few may stand right by chance.
func TestAlikeBlocksByIndex(t *testing.T) {
	s := laid(bare(small(), modeOne, 0), false, 0, 8, 100, 1, 4, 1, 2, 8, 1, 3, 8, 50)
	onesAre(t, s, block(4, 4, 1), block(8, 16, 0), block(8, 4, 2), block(8, 12, 3))
	for _, at := range []int{0, 8, -8, math.MinInt, math.MaxInt} {
		for n := range 200 {
			many := api.State{Slots: make([]api.Slot, n)}
			var want []api.Block
			for k := range many.Slots {
				many.Slots[k] = api.Slot{Live: true, At: at, Len: 1 + (n-k)*8}
				want = append(want, block(at, need(1+(n-k)*8), k))
			}
			onesAre(t, many, want...)
		}
	}
}

// TestOnlySlotsMatter: the mode, the base and all else say nothing of what is an object, nor does what a slot that is not live says.
func TestOnlySlotsMatter(t *testing.T) {
	slots := []api.Slot{
		{Two: true, At: 4, Len: 5},
		{Live: true, At: 12, Len: 5, Gen: -7},
		{At: 8, Len: 3},
		{Live: true, Two: true, At: 36, Len: 90, Gen: lastGen + 1},
		{Gen: lastGen},
	}
	for _, s := range []api.State{
		{}, bare(small(), modeOne, 0), bare(small(), modeTwo, 4), bare(small(), modeUp, 2), bare(small(), modeDown, 1), bare(small(), math.MinInt, math.MaxInt),
		{Shape: api.Shape{Pages: -1, Slots: 1, Roots: math.MaxInt}, Mode: 9}, {Data: [][]byte{{1}, {2}}},
	} {
		s.Slots = slots
		onesAre(t, s, block(12, 4, 1))
		twosAre(t, s, []api.Object{{At: 36, Len: 90}}, []int{3})
		if n := Live(s); n != 2 {
			t.Errorf("Live = %d", n)
		}
	}
	for _, none := range [][]api.Slot{nil, {}, {{}}, {{Two: true}}, slots[:1], slots[4:]} {
		s := bare(small(), modeOne, 0)
		s.Slots = none
		onesAre(t, s)
		twosAre(t, s, nil, nil)
		if n := Live(s); n != 0 {
			t.Errorf("Live of %v = %d", none, n)
		}
	}
}

func TestLiveCounts(t *testing.T) {
	roll := dice(22)
	for n := range 60 {
		s := api.State{Slots: make([]api.Slot, n)}
		want := 0
		for k := range s.Slots {
			s.Slots[k] = api.Slot{Live: roll(2) == 0, Two: roll(2) == 0, Gen: roll(3) * 32768, At: roll(9), Len: roll(9)}
			if s.Slots[k].Live {
				want++
			}
		}
		if got := Live(s); got != want {
			t.Errorf("Live(%+v) = %d; want %d", s, got, want)
		}
		lookObjects(t, s)
	}
}

func TestObjectsOfRolledStates(t *testing.T) {
	for _, s := range rolled(23, 20) {
		lookObjects(t, s)
	}
}

// TestBlocksAreTheirSlots: of a right state each live slot is told once, by one of both, and blocks do strictly rise.
func TestBlocksAreTheirSlots(t *testing.T) {
	for _, s := range rolled(24, 20) {
		ones := Ones(s)
		_, at := Twos(s)
		if len(ones)+len(at) != Live(s) {
			t.Fatalf("%+v: %d and %d objects of %d live slots", cut(s), len(ones), len(at), Live(s))
		}
		for i, b := range ones {
			if i > 0 && b.At <= ones[i-1].At || slices.Contains(at, b.Index) || s.Slots[b.Index].At != b.At {
				t.Fatalf("%+v: blocks %v", cut(s), ones)
			}
		}
	}
}
