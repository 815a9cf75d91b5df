package state

import (
	"testing"

	"joist/api"
)

// P18.5

func TestWhatNewMakesIsRight(t *testing.T) {
	all := shapes()
	for pages := 1; pages <= mostPages; pages++ {
		all = append(all, api.Shape{Pages: pages, Slots: 2 + pages%16*2, Roots: 2 + pages%4*2, Room: 1 + 29*pages})
	}
	for _, shape := range all {
		for _, mode := range []int{api.ModeOne, api.ModeTwo} {
			s, e := New(shape, mode)
			if e != api.OK || !Right(s) || Live(s) != 0 {
				t.Errorf("New(%+v, %d): %d, right %v, %d live", shape, mode, e, Right(s), Live(s))
			}
			right(t, "New", s)
			onesAre(t, s)
			twosAre(t, s, nil, nil)
			same(t, "New and by hand", s, bare(shape, mode, s.Base))
		}
	}
}

// TestNewIsARightStateOrNone: whatever it is asked, beside OK stands a right state of that shape and mode, beside ErrArg a zero one, and then there is none such.
func TestNewIsARightStateOrNone(t *testing.T) {
	for pages := -1; pages <= mostPages+1; pages++ {
		for slots := -1; slots <= 34; slots++ {
			for mode := 0; mode <= 5; mode++ {
				shape := api.Shape{Pages: pages, Slots: slots, Roots: 2 + (slots+2)%3, Room: 1 + (slots+1)*55}
				s, e := New(shape, mode)
				if want := shapeIsRight(shape) && (mode == modeOne || mode == modeTwo); (e == api.OK) != want || Right(s) != want {
					t.Fatalf("New(%+v, %d) = %+v, %d", shape, mode, s, e)
				}
				if e == api.OK && (s.Shape != shape || s.Mode != mode) || e != api.OK && !alike(s, api.State{}) {
					t.Fatalf("New(%+v, %d) = %+v, %d", shape, mode, s, e)
				}
			}
		}
	}
}

func TestACopyIsTheSame(t *testing.T) {
	for _, s := range states(51, 10) {
		c := Copy(s)
		same(t, "copy", s, c)
		same(t, "copy of a copy", s, Copy(c))
		if Right(c) != Right(s) || Live(c) != Live(s) {
			t.Fatalf("a copy of %+v is right: %v, and has %d live slots", s, Right(c), Live(c))
		}
		lookObjects(t, c)
		for _, turn := range []func(*api.State){
			func(o *api.State) { o.Base++ },
			func(o *api.State) { o.Slots = append(o.Slots, api.Slot{}) },
			func(o *api.State) { o.Data = append(o.Data, nil) },
		} {
			other := Copy(s)
			turn(&other)
			unlike(t, "a copy that was turned", s, other)
			same(t, "copy", s, c)
		}
	}
}

// P18.6

// noWordTwice gives each word of what Ones and Twos tell to its object.
func noWordTwice(t *testing.T, s api.State) {
	t.Helper()
	var h heap
	end := pageWords * s.Shape.Pages
	for _, b := range Ones(s) {
		if b.At < pageWords*s.Base || b.Size*8 < s.Slots[b.Index].Len+16 || !h.take(b.Index, b.At, b.Size, end) {
			t.Fatalf("%+v: the block %v has another one's words", cut(s), b)
		}
	}
	twos, at := Twos(s)
	for i, o := range twos {
		words, _, is := claim(o.At, o.Len)
		if !is || !h.take(at[i], o.At, words, pageWords*s.Base) {
			t.Fatalf("%+v: the object %v has another one's words", cut(s), o)
		}
	}
}

func TestNoWordIsTwoObjects(t *testing.T) {
	for _, s := range rolled(61, 40) {
		right(t, "rolled", s)
		noWordTwice(t, s)
	}
}

// TestTwoObjectsEverywhere: each two objects of some sizes and of both formats, at each word of a heap of two pages: right if they share no word and each may lie there.
func TestTwoObjectsEverywhere(t *testing.T) {
	shape := api.Shape{Pages: 2, Slots: 2, Roots: 2, Room: 1}
	lens := []int{1, 17, 100, 200}
	count := 0
	for base := range 3 {
		s := bare(shape, modeUp, base)
		for _, n := range lens {
			for _, m := range lens {
				for at := 0; at < 2*pageWords; at++ {
					for to := 0; to < 2*pageWords; to++ {
						for k := range 4 {
							s.Slots[0] = api.Slot{Live: true, Two: k&1 != 0, At: at, Len: n}
							s.Slots[1] = api.Slot{Live: true, Two: k&2 != 0, At: to, Len: m}
							s.Data[0], s.Data[1] = make([]byte, n), make([]byte, m)
							if look(t, s) {
								noWordTwice(t, s)
								count++
							}
						}
					}
				}
			}
		}
	}
	if count < 1000 {
		t.Errorf("%d are right", count)
	}
}

// TestOneMoreObject: to a right state with an open slot a further object is laid at each word; it stays right only where no word becomes two objects'.
func TestOneMoreObject(t *testing.T) {
	for _, was := range rolled(62, 2) {
		for k, slot := range was.Slots {
			if slot.Live {
				continue
			}
			for at := 0; at < pageWords*was.Shape.Pages; at += 2 {
				for _, n := range []int{3, 70, 300} {
					for _, two := range []bool{false, true} {
						s := was
						s.Slots = append([]api.Slot(nil), was.Slots...)
						s.Data = append([][]byte(nil), was.Data...)
						s.Slots[k] = api.Slot{Gen: slot.Gen, Live: true, Two: two, At: at, Len: n}
						s.Data[k] = filling(k, n)
						if look(t, s) {
							noWordTwice(t, s)
						}
					}
				}
			}
			break
		}
	}
}
