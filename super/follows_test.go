package super

import (
	"bytes"
	"testing"

	"joist/api"
	"joist/crc"
	"joist/shape"
	"joist/words"
)

// P17.4

func TestWhatIsWrittenIsRead(t *testing.T) {
	eachHead(func(h head) {
		b, e := write(h)
		if e != api.OK {
			t.Fatalf("Write(%+v) tells %d", h, e)
		}
		readIs(t, b, h)
	})
}

func TestWhatIsReadIsWritten(t *testing.T) {
	eachHead(func(h head) {
		b := laid(h)
		s, mode, base, is := Read(b)
		if again, e := Write(s, mode, base); !is || e != api.OK || !bytes.Equal(again, b) {
			t.Fatalf("Write(Read(%v)) = %v, %d", b, again, e)
		}
	})
}

// TestNoTwoHeadsHaveTheSameBytes: nor do they have the bytes of none.
func TestNoTwoHeadsHaveTheSameBytes(t *testing.T) {
	of := map[string]head{}
	eachHead(func(h head) {
		b, _ := write(h)
		if other, was := of[string(b)]; was && other != h {
			t.Fatalf("%+v and %+v have the same bytes", h, other)
		}
		of[string(b)] = h
	})
}

func TestModesAndNamesAreEachOthers(t *testing.T) {
	for mode := -300; mode <= 300; mode++ {
		back, is := Mode(Name(mode))
		if there := mode >= modeOne && mode <= modeDown; is != there || there && back != mode || !there && back != 0 {
			t.Errorf("Mode(Name(%d)) = %d, %v", mode, back, is)
		}
	}
	for _, name := range []string{"one", "two", "up", "down"} {
		if mode, is := Mode(name); !is || Name(mode) != name {
			t.Errorf("Name(Mode(%q)) = %q", name, Name(mode))
		}
	}
}

// TestAHeadIsOfTheLayersBelow: a line is what crc seals of seven words, and its shape one that is right.
func TestAHeadIsOfTheLayersBelow(t *testing.T) {
	eachHead(func(h head) {
		b, _ := write(h)
		front, is := crc.Open(b)
		if !is || len(b) != lineBytes {
			t.Fatalf("Write(%+v) = %v, which does not open", h, b)
		}
		l, is := words.All(front)
		if !is || len(l) != 7 || l[0] != api.Magic || !shape.Right(api.Shape{Pages: l[2], Slots: l[3], Roots: l[4], Room: l[5]}) || Name(l[1]) == "" {
			t.Fatalf("Write(%+v) has the words %v", h, l)
		}
	})
}

// TestWaysHaveHeadsAtEachPage: a heap that goes up or down, and those at both ends of its way, are heads all along.
func TestWaysHaveHeadsAtEachPage(t *testing.T) {
	for _, s := range shapes() {
		rightIs(t, head{s, modeOne, 0})
		rightIs(t, head{s, modeTwo, s.Pages})
		for base := range s.Pages + 1 {
			rightIs(t, head{s, modeUp, base})
			rightIs(t, head{s, modeDown, s.Pages - base})
			if base > 0 {
				wrongIs(t, head{s, modeOne, base})
				wrongIs(t, head{s, modeTwo, s.Pages - base})
			}
		}
	}
}
