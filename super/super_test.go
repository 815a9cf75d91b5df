package super

import (
	"bytes"
	"encoding/binary"
	"hash/crc32"
	"math"
	"slices"
	"testing"

	"joist/api"
)

// The limits, written out: the tests must not lean on what they hold the package against.
const (
	mostPages = 64
	lineBytes = 64
	magic     = 0x315453494f4a // the bytes of JOIST1, the first one lowest
	modeOne   = 1
	modeTwo   = 2
	modeUp    = 3
	modeDown  = 4
)

// modes are all that there are.
func modes() []int { return []int{modeOne, modeTwo, modeUp, modeDown} }

// head is one, or something near it.
type head struct {
	s          api.Shape
	mode, base int
}

// isRight is whether a head is one, reckoned once more.
func isRight(h head) bool {
	return shapeIsRight(h.s) && slices.Contains(bases(h.mode, h.s.Pages), h.base)
}

// shapeIsRight holds where no number of the shape is so great that the sum of its lines is none.
func shapeIsRight(s api.Shape) bool {
	if s.Pages < 1 || s.Pages > mostPages || s.Slots < 2 || s.Slots > 32 || s.Slots%2 != 0 ||
		s.Roots < 2 || s.Roots > 8 || s.Roots%2 != 0 || s.Room < 1 || s.Room > 4096 {
		return false
	}
	return 1+1+2*s.Room+1+s.Slots/2+s.Roots/2+26+4*s.Pages <= 4096
}

// bases are those that go with a mode in a heap of so many pages.
func bases(mode, pages int) []int {
	var l []int
	for base := 0; base <= pages; base++ {
		if mode == modeOne && base == 0 || mode == modeTwo && base == pages || mode == modeUp || mode == modeDown {
			l = append(l, base)
		}
	}
	return l
}

// sealed are seven words and their sum, whatever they say.
func sealed(l [7]uint64) []byte {
	var b []byte
	for _, n := range l {
		b = binary.LittleEndian.AppendUint64(b, n)
	}
	return binary.LittleEndian.AppendUint64(b, uint64(crc32.ChecksumIEEE(b)))
}

// numbersOf are the seven words of a head.
func numbersOf(h head) [7]uint64 {
	return [7]uint64{magic, uint64(h.mode), uint64(h.s.Pages), uint64(h.s.Slots), uint64(h.s.Roots), uint64(h.s.Room), uint64(h.base)}
}

func laid(h head) []byte { return sealed(numbersOf(h)) }

func write(h head) ([]byte, api.Errno) { return Write(h.s, h.mode, h.base) }

// small is the chapter's example.
func small() api.Shape { return api.Shape{Pages: 4, Slots: 4, Roots: 2, Room: 30} }

// shapes are right ones: the least, the greatest by each number and by all lines, and some between.
func shapes() []api.Shape {
	return []api.Shape{
		small(),
		{Pages: 1, Slots: 2, Roots: 2, Room: 1},
		{Pages: 1, Slots: 4, Roots: 2, Room: 2030},
		{Pages: 64, Slots: 2, Roots: 2, Room: 1},
		{Pages: 64, Slots: 32, Roots: 8, Room: 1},
		{Pages: 64, Slots: 32, Roots: 8, Room: 1895},
		{Pages: 64, Slots: 32, Roots: 6, Room: 1896},
		{Pages: 2, Slots: 32, Roots: 2, Room: 60},
		{Pages: 3, Slots: 2, Roots: 8, Room: 257},
		{Pages: 33, Slots: 18, Roots: 4, Room: 511},
	}
}

// wrongShapes are not right, most of them by one number.
func wrongShapes() []api.Shape {
	l := []api.Shape{
		{},
		{Pages: 1, Slots: 4, Roots: 2, Room: 2031},
		{Pages: 1, Slots: 6, Roots: 2, Room: 2030},
		{Pages: 64, Slots: 32, Roots: 8, Room: 1896},
		{Pages: 64, Slots: 32, Roots: 6, Room: 1897},
		{Pages: -4, Slots: -4, Roots: -2, Room: -30},
	}
	for _, n := range append(far(), -2, -1, 0, 65, 33, 3, 4096) {
		for k := range 4 {
			s := small()
			*[]*int{&s.Pages, &s.Slots, &s.Roots, &s.Room}[k] = n
			if !shapeIsRight(s) {
				l = append(l, s)
			}
		}
	}
	return l
}

// far are numbers that nothing in a head may be. Cut to fewer bits or added to others they may come round to some that may.
func far() []int {
	return []int{
		math.MinInt, math.MinInt + 1, math.MinInt + 2, math.MinInt + 3, math.MinInt + 4, math.MinInt / 2, math.MinInt/2 + 2,
		-1 << 32, -1<<32 + 1, -1<<32 + 2, -1 << 31, -256, -255, -64, -5, -4, -3, -2, -1,
		1 << 16, 1<<16 + 2, 1<<31 + 2, 1 << 32, 1<<32 + 1, 1<<32 + 2, 1<<32 + 3, 1<<32 + 4,
		1<<62 - 1, 1 << 62, 1<<62 + 1, 1<<62 + 2, 1<<62 + 4, math.MaxInt - 1, math.MaxInt,
	}
}

// eachHead hands on all heads of all modes whose shapes are the tests' or have any Pages.
func eachHead(hand func(head)) {
	all := shapes()
	for pages := 1; pages <= mostPages; pages++ {
		all = append(all, api.Shape{Pages: pages, Slots: 2 + pages%16*2, Roots: 2 + pages%4*2, Room: 1 + 29*pages})
	}
	for _, s := range all {
		for _, mode := range modes() {
			for _, base := range bases(mode, s.Pages) {
				hand(head{s, mode, base})
			}
		}
	}
}

func rightIs(t *testing.T, h head) {
	t.Helper()
	if !Right(h.s, h.mode, h.base) {
		t.Fatalf("Right(%+v) is false", h)
	}
	if b, e := write(h); e != api.OK || !bytes.Equal(b, laid(h)) {
		t.Fatalf("Write(%+v) = %v, %d; want %v", h, b, e, laid(h))
	}
}

func wrongIs(t *testing.T, h head) {
	t.Helper()
	if Right(h.s, h.mode, h.base) {
		t.Fatalf("Right(%+v) is true", h)
	}
	if b, e := write(h); e != api.ErrArg || len(b) != 0 {
		t.Fatalf("Write(%+v) = %v, %d; want none, ErrArg", h, b, e)
	}
}

func look(t *testing.T, h head) {
	t.Helper()
	if isRight(h) {
		rightIs(t, h)
	} else {
		wrongIs(t, h)
	}
}

// P17.1: Right and Write

func TestExamples(t *testing.T) {
	b, e := Write(small(), api.ModeUp, 2)
	s, mode, base, is := Read(b)
	if e != api.OK || s != small() || mode != api.ModeUp || base != 2 || !is {
		t.Errorf("Read(Write) = %+v, %d, %d, %v; %d", s, mode, base, is, e)
	}
	if b, e := Write(small(), api.ModeOne, 1); len(b) != 0 || e != api.ErrArg {
		t.Errorf("Write of ModeOne, 1 = %v, %d", b, e)
	}
	if name := Name(api.ModeTwo); name != "two" {
		t.Errorf("Name(ModeTwo) = %q", name)
	}
	if mode, is := Mode("Two"); mode != 0 || is {
		t.Errorf("Mode(Two) = %d, %v", mode, is)
	}
}

// TestBytesByHand: a head whose numbers are all unlike, written out.
func TestBytesByHand(t *testing.T) {
	front := []byte{
		'J', 'O', 'I', 'S', 'T', '1', 0, 0,
		4, 0, 0, 0, 0, 0, 0, 0,
		62, 0, 0, 0, 0, 0, 0, 0,
		30, 0, 0, 0, 0, 0, 0, 0,
		6, 0, 0, 0, 0, 0, 0, 0,
		5, 1, 0, 0, 0, 0, 0, 0,
		17, 0, 0, 0, 0, 0, 0, 0,
	}
	sum := crc32.ChecksumIEEE(front)
	want := append(front, byte(sum), byte(sum>>8), byte(sum>>16), byte(sum>>24), 0, 0, 0, 0)
	b, e := Write(api.Shape{Pages: 62, Slots: 30, Roots: 6, Room: 261}, api.ModeDown, 17)
	if e != api.OK || len(b) != lineBytes || !bytes.Equal(b, want) {
		t.Errorf("Write = %v, %d; want %v", b, e, want)
	}
}

func TestEachHead(t *testing.T) {
	eachHead(func(h head) { rightIs(t, h) })
}

// TestEachBase: of all Pages and modes, and those beside them.
func TestEachBase(t *testing.T) {
	for pages := 0; pages <= mostPages+1; pages++ {
		for mode := -2; mode <= 8; mode++ {
			for base := -3; base <= mostPages+4; base++ {
				look(t, head{api.Shape{Pages: pages, Slots: 4, Roots: 2, Room: 30}, mode, base})
			}
		}
	}
}

// TestBasesByHand: at the edges that the modes draw, written out.
func TestBasesByHand(t *testing.T) {
	for _, one := range []struct {
		pages, mode, base int
		is                bool
	}{
		{4, modeOne, 0, true}, {4, modeOne, 1, false}, {4, modeOne, 3, false}, {4, modeOne, 4, false}, {4, modeOne, -1, false},
		{4, modeTwo, 4, true}, {4, modeTwo, 3, false}, {4, modeTwo, 1, false}, {4, modeTwo, 0, false}, {4, modeTwo, 5, false},
		{4, modeUp, 0, true}, {4, modeUp, 1, true}, {4, modeUp, 3, true}, {4, modeUp, 4, true}, {4, modeUp, -1, false}, {4, modeUp, 5, false},
		{4, modeDown, 0, true}, {4, modeDown, 1, true}, {4, modeDown, 3, true}, {4, modeDown, 4, true}, {4, modeDown, -1, false}, {4, modeDown, 5, false},
		{1, modeOne, 0, true}, {1, modeOne, 1, false}, {1, modeTwo, 1, true}, {1, modeTwo, 0, false},
		{1, modeUp, 0, true}, {1, modeUp, 1, true}, {1, modeUp, 2, false}, {1, modeDown, 1, true}, {1, modeDown, 2, false},
		{64, modeOne, 0, true}, {64, modeOne, 64, false}, {64, modeTwo, 64, true}, {64, modeTwo, 63, false},
		{64, modeUp, 64, true}, {64, modeUp, 65, false}, {64, modeDown, 64, true}, {64, modeDown, 65, false},
		{4, 0, 0, false}, {4, 5, 0, false}, {4, 5, 4, false}, {4, -1, 0, false},
	} {
		s := small()
		s.Pages = one.pages
		if Right(s, one.mode, one.base) != one.is {
			t.Errorf("Right of %d pages, mode %d, base %d is %v", one.pages, one.mode, one.base, !one.is)
		}
		look(t, head{s, one.mode, one.base})
	}
}

func TestWrongShapes(t *testing.T) {
	for _, s := range wrongShapes() {
		for mode := range 6 {
			for _, base := range []int{math.MinInt, -4, -1, 0, 1, 3, 4, 5, 64, 65, s.Pages - 1, s.Pages, s.Pages + 1, math.MaxInt} {
				wrongIs(t, head{s, mode, base})
			}
		}
	}
}

func TestWrongModes(t *testing.T) {
	for _, s := range shapes() {
		for _, mode := range append(far(), 0, 5, 6, 7, 8) {
			for _, base := range []int{0, 1, s.Pages - 1, s.Pages} {
				wrongIs(t, head{s, mode, base})
			}
		}
	}
}

func TestWrongBases(t *testing.T) {
	for _, s := range shapes() {
		for _, mode := range modes() {
			for _, base := range append(far(), s.Pages+1, s.Pages+2, mostPages+1, 2*mostPages) {
				wrongIs(t, head{s, mode, base})
			}
		}
	}
}

// TestAllWrong: no number makes up for another one.
func TestAllWrong(t *testing.T) {
	for _, n := range far() {
		wrongIs(t, head{api.Shape{Pages: n, Slots: n, Roots: n, Room: n}, n, n})
		wrongIs(t, head{small(), n, n})
		for _, mode := range modes() {
			wrongIs(t, head{api.Shape{Pages: n, Slots: 4, Roots: 2, Room: 30}, mode, n})
		}
	}
}

// P17.2

func nameIs(t *testing.T, mode int, want string) {
	t.Helper()
	if name := Name(mode); name != want {
		t.Errorf("Name(%d) = %q; want %q", mode, name, want)
	}
}

func modeIs(t *testing.T, name string, want int) {
	t.Helper()
	if mode, is := Mode(name); mode != want || is != (want != 0) {
		t.Errorf("Mode(%q) = %d, %v; want %d", name, mode, is, want)
	}
}

func TestNames(t *testing.T) {
	for k, name := range []string{"one", "two", "up", "down"} {
		nameIs(t, modes()[k], name)
		modeIs(t, name, modes()[k])
	}
	nameIs(t, api.ModeOne, "one")
	nameIs(t, api.ModeTwo, "two")
	nameIs(t, api.ModeUp, "up")
	nameIs(t, api.ModeDown, "down")
}

func TestNamesOfNoMode(t *testing.T) {
	for _, mode := range far() {
		nameIs(t, mode, "")
	}
	for mode := 5; mode < 1000; mode++ {
		nameIs(t, mode, "")
		nameIs(t, 5-mode, "")
	}
}

func TestWrongNames(t *testing.T) {
	modeIs(t, "", 0)
	for _, name := range []string{
		"One", "ONE", "oNe", "Two", "TWO", "Up", "UP", "uP", "Down", "DOWN", "dowN",
		"on", "ne", "eno", "tw", "wo", "u", "p", "dow", "own", "none", "updown", "up down", "onetwo", "three", "four",
		"0", "1", "2", "3", "4", "mode", "ModeOne", "\x00", "\x01", "\xff", "öne", "one\u0301",
	} {
		modeIs(t, name, 0)
	}
	for _, name := range []string{"one", "two", "up", "down"} {
		for _, more := range []string{" ", "\t", "\n", "\x00", "s", ".", "\xff", name} {
			modeIs(t, name+more, 0)
			modeIs(t, more+name, 0)
			modeIs(t, more+name+more, 0)
		}
		for n := range name {
			modeIs(t, name[:n], 0)
			if n > 0 {
				modeIs(t, name[n:], 0)
			}
		}
	}
}

// TestNamesByteByByte: a name with any byte put for one of its own is none.
func TestNamesByteByByte(t *testing.T) {
	for _, name := range []string{"one", "two", "up", "down"} {
		for at := range len(name) {
			for turn := 1; turn < 256; turn++ {
				b := []byte(name)
				b[at] ^= byte(turn)
				modeIs(t, string(b), 0)
			}
		}
	}
}
