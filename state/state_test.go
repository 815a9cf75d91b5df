package state

import (
	"bytes"
	"math"
	"slices"
	"testing"
	"unicode/utf8"

	"joist/api"
)

// The limits, written out: the tests must not lean on what they hold the package against.
const (
	pageWords = 32
	mostPages = 64
	lastWord  = 2048 // words of the greatest heap
	lastLen   = 2048
	lastSmall = 120
	lastGen   = 65535
	lastIndex = 31
	modeOne   = 1
	modeTwo   = 2
	modeUp    = 3
	modeDown  = 4
)

// begins are the words of a slab where the cells of each class begin, written out; cellWords are how many words they have.
var (
	begins = [6][]int{
		{4, 6, 8, 10, 12, 14, 16, 18, 20, 22, 24, 26, 28, 30},
		{4, 7, 10, 13, 16, 19, 22, 25, 28},
		{4, 9, 14, 19, 24},
		{4, 11, 18, 25},
		{4, 14},
		{4},
	}
	cellWords = [6]int{2, 3, 5, 7, 10, 15}
)

func modes() []int { return []int{modeOne, modeTwo, modeUp, modeDown} }

// small is the chapter's example.
func small() api.Shape { return api.Shape{Pages: 4, Slots: 4, Roots: 2, Room: 30} }

// shapes are right ones: the least, the greatest by each number and by all lines, and some between.
func shapes() []api.Shape {
	return []api.Shape{
		small(),
		{Pages: 1, Slots: 2, Roots: 2, Room: 1},
		{Pages: 1, Slots: 4, Roots: 2, Room: 2030},
		{Pages: 64, Slots: 2, Roots: 2, Room: 1},
		{Pages: 64, Slots: 32, Roots: 8, Room: 1},
		{Pages: 64, Slots: 32, Roots: 8, Room: 1895},
		{Pages: 2, Slots: 32, Roots: 4, Room: 60},
		{Pages: 33, Slots: 18, Roots: 6, Room: 511},
	}
}

// shapeIsRight holds where no number is so great that the sum of the lines is none.
func shapeIsRight(s api.Shape) bool {
	if s.Pages < 1 || s.Pages > mostPages || s.Slots < 2 || s.Slots > 32 || s.Slots%2 != 0 ||
		s.Roots < 2 || s.Roots > 8 || s.Roots%2 != 0 || s.Room < 1 || s.Room > 4096 {
		return false
	}
	return 1+1+2*s.Room+1+s.Slots/2+s.Roots/2+26+4*s.Pages <= 4096
}

// wrongShapes are not right, most of them by one number.
func wrongShapes() []api.Shape {
	l := []api.Shape{
		{},
		{Pages: 1, Slots: 4, Roots: 2, Room: 2031},
		{Pages: 64, Slots: 32, Roots: 8, Room: 1896},
		{Pages: 0, Slots: 4, Roots: 2, Room: 30},
		{Pages: 65, Slots: 4, Roots: 2, Room: 30},
		{Pages: 4, Slots: 0, Roots: 2, Room: 30},
		{Pages: 4, Slots: 3, Roots: 2, Room: 30},
		{Pages: 4, Slots: 34, Roots: 2, Room: 30},
		{Pages: 4, Slots: 4, Roots: 0, Room: 30},
		{Pages: 4, Slots: 4, Roots: 3, Room: 30},
		{Pages: 4, Slots: 4, Roots: 10, Room: 30},
		{Pages: 4, Slots: 4, Roots: 2, Room: 0},
		{Pages: -4, Slots: -4, Roots: -2, Room: -30},
	}
	for _, n := range far() {
		for k := range 4 {
			s := small()
			*[]*int{&s.Pages, &s.Slots, &s.Roots, &s.Room}[k] = n
			if !shapeIsRight(s) {
				l = append(l, s)
			}
		}
	}
	return l
}

// far are numbers past all that may be, or nearly all. Those past 2^32 have one that may be in their lower half.
func far() []int {
	return []int{
		math.MinInt, math.MinInt + 1, math.MinInt + 4, math.MinInt + 32, math.MinInt / 2, math.MinInt/2 + 4, -1 << 32, -1<<32 + 4, -1 << 31, -2048, -128, -32, -8, -4, -3, -2, -1,
		65, 128, 2049, 2052, 2080, 4096, 65536, 65540, 1 << 31, 1 << 32, 1<<32 + 2, 1<<32 + 4, 1<<32 + 32, 1 << 61, 1<<61 + 4, 1<<62 - 1, 1 << 62, 1<<62 + 4, 1<<63 - 32, 1<<63 - 8, 1<<63 - 4, math.MaxInt - 1, math.MaxInt,
	}
}

// dice are numbers without an order that anybody sees, but the same each time.
func dice(seed uint32) func(n int) int {
	return func(n int) int {
		seed = seed*1664525 + 1013904223
		return int(seed>>8) % n
	}
}

// bare is a state with nothing in it, made by hand, of any mode and base.
func bare(s api.Shape, mode, base int) api.State {
	return api.State{Shape: s, Mode: mode, Base: base, Slots: make([]api.Slot, s.Slots), Roots: make([]api.Root, s.Roots), Data: make([][]byte, s.Slots)}
}

// own is a state in memory of its own, made by hand.
func own(s api.State) api.State {
	s.Slots = append([]api.Slot(nil), s.Slots...)
	s.Roots = append([]api.Root(nil), s.Roots...)
	data := make([][]byte, len(s.Data))
	for k, b := range s.Data {
		data[k] = append([]byte(nil), b...)
	}
	s.Data = data
	return s
}

// alike holds states against each other part by part; empty lists are alike.
func alike(a, b api.State) bool {
	if a.Shape != b.Shape || a.Mode != b.Mode || a.Base != b.Base ||
		len(a.Slots) != len(b.Slots) || len(a.Roots) != len(b.Roots) || len(a.Data) != len(b.Data) {
		return false
	}
	for k := range a.Slots {
		if a.Slots[k] != b.Slots[k] {
			return false
		}
	}
	for k := range a.Roots {
		if a.Roots[k] != b.Roots[k] {
			return false
		}
	}
	for k := range a.Data {
		if string(a.Data[k]) != string(b.Data[k]) {
			return false
		}
	}
	return true
}

// filling are n bytes that go with a slot.
func filling(k, n int) []byte {
	b := make([]byte, max(n, 0))
	for i := range b {
		b[i] = byte(7*k + i + 1)
	}
	return b
}

// with is s with an object in slot k, and as many bytes as that has, where it may have them; the slot's generation stays.
func with(s api.State, k int, two bool, at, n int) api.State {
	s = own(s)
	s.Slots[k] = api.Slot{Gen: s.Slots[k].Gen, Live: true, Two: two, At: at, Len: n}
	if n <= lastLen+1 {
		s.Data[k] = filling(k, n)
	}
	return s
}

// laid is s with objects of a format, three numbers each: slot, At, Len.
func laid(s api.State, two bool, numbers ...int) api.State {
	for i := 0; i+2 < len(numbers); i += 3 {
		s = with(s, numbers[i], two, numbers[i+1], numbers[i+2])
	}
	return s
}

// need are the words of a block, counted up.
func need(n int) int {
	words := 2
	for bytesHeld := 0; bytesHeld < n; bytesHeld += 8 {
		words++
	}
	for words%4 != 0 {
		words++
	}
	return words
}

// claim is what an object of format 2 has: its first word, how many, and of which kind its pages are (6: a large one's); false, if it may not lie there in any heap.
func claim(at, n int) (words, kind int, is bool) {
	if n < 1 || n > lastLen || at < 0 || at > lastWord {
		return 0, 0, false
	}
	if n > lastSmall {
		words = pageWords
		for words*8 < n {
			words += pageWords
		}
		return words, 6, at%pageWords == 0
	}
	for cellWords[kind]*8 < n {
		kind++
	}
	return cellWords[kind], kind, slices.Contains(begins[kind], at%pageWords)
}

// heap tells of each word whose slot's it is, plus 1, and of each page of which kind its objects are, plus 1.
type heap struct {
	words [lastWord]int
	kinds [mostPages]int
}

// take gives words from at on, before end, to a slot; false, if they are not to be had.
func (h *heap) take(k, at, words, end int) bool {
	for w := at; w < at+words; w++ {
		if w >= end || h.words[w] != 0 {
			return false
		}
		h.words[w] = k + 1
	}
	return true
}

// lay gives a live slot its words.
func (h *heap) lay(s api.State, k int) bool {
	slot := s.Slots[k]
	if slot.Len < 1 || slot.Len > lastLen || slot.At < 0 || slot.At > lastWord {
		return false
	}
	if !slot.Two {
		return slot.At%4 == 0 && slot.At >= pageWords*s.Base && h.take(k, slot.At, need(slot.Len), pageWords*s.Shape.Pages)
	}
	words, kind, is := claim(slot.At, slot.Len)
	if !is || !h.take(k, slot.At, words, pageWords*s.Base) {
		return false
	}
	for p := slot.At / pageWords; p*pageWords < slot.At+words; p++ {
		if h.kinds[p] != 0 && h.kinds[p] != kind+1 {
			return false
		}
		h.kinds[p] = kind + 1
	}
	return true
}

func headIsRight(s api.State) bool {
	if !shapeIsRight(s.Shape) || s.Base < 0 || s.Base > s.Shape.Pages {
		return false
	}
	return s.Mode == modeOne && s.Base == 0 || s.Mode == modeTwo && s.Base == s.Shape.Pages || s.Mode == modeUp || s.Mode == modeDown
}

func nameIsRight(name string) bool {
	for _, r := range name {
		if r <= 32 || r >= 127 && r <= 160 || r == 0xfffd {
			return false
		}
	}
	return len(name) >= 1 && len(name) <= 16 && utf8.ValidString(name)
}

func rootsAreRight(l []api.Root) bool {
	for k, r := range l {
		if r.Name == "" && r.To != (api.Handle{}) || r.Name != "" && !nameIsRight(r.Name) ||
			r.To.Index < 0 || r.To.Index > lastIndex || r.To.Gen < 0 || r.To.Gen > lastGen {
			return false
		}
		for _, other := range l[:k] {
			if r.Name != "" && other.Name == r.Name {
				return false
			}
		}
	}
	return true
}

// isRight is whether a state is right, reckoned once more, word by word.
func isRight(s api.State) bool {
	if !headIsRight(s) || len(s.Slots) != s.Shape.Slots || len(s.Data) != s.Shape.Slots || len(s.Roots) != s.Shape.Roots || !rootsAreRight(s.Roots) {
		return false
	}
	var h heap
	for k, slot := range s.Slots {
		if slot.Gen < 0 || slot.Gen > lastGen {
			return false
		}
		if !slot.Live {
			if slot.Two || slot.At != 0 || slot.Len != 0 || len(s.Data[k]) != 0 {
				return false
			}
			continue
		}
		if slot.Two && s.Mode == modeOne || !slot.Two && s.Mode == modeTwo || len(s.Data[k]) != slot.Len || !h.lay(s, k) {
			return false
		}
	}
	return true
}

// cut is what a test's message shows of a state.
func cut(s api.State) api.State {
	s.Data = nil
	return s
}

// look holds Right against the tests' own reckoning, and tells whether the state was right.
func look(t *testing.T, s api.State) bool {
	t.Helper()
	want := isRight(s)
	if Right(s) != want {
		t.Fatalf("Right(%+v) = %v", cut(s), !want)
	}
	return want
}

func right(t *testing.T, what string, s api.State) {
	t.Helper()
	if !Right(s) {
		t.Errorf("%s: Right(%+v) = false", what, cut(s))
	}
	look(t, s)
}

func wrong(t *testing.T, what string, s api.State) {
	t.Helper()
	if Right(s) {
		t.Errorf("%s: Right(%+v) = true", what, cut(s))
	}
	look(t, s)
}

// P18.1: New

func newIs(t *testing.T, s api.Shape, mode, base int) {
	t.Helper()
	got, e := New(s, mode)
	if e != api.OK || !alike(got, bare(s, mode, base)) {
		t.Fatalf("New(%+v, %d) = %+v, %d", s, mode, got, e)
	}
}

func newRefused(t *testing.T, s api.Shape, mode int) {
	t.Helper()
	got, e := New(s, mode)
	if e != api.ErrArg || !alike(got, api.State{}) {
		t.Fatalf("New(%+v, %d) = %+v, %d; want a zero state, ErrArg", s, mode, got, e)
	}
}

func TestExamples(t *testing.T) {
	s, e := New(small(), api.ModeTwo)
	if e != api.OK || s.Base != 4 || len(s.Slots) != 4 || len(s.Roots) != 2 {
		t.Errorf("New of ModeTwo = %+v, %d", s, e)
	}
	if s, e := New(small(), api.ModeUp); e != api.ErrArg || !alike(s, api.State{}) {
		t.Errorf("New of ModeUp = %+v, %d", s, e)
	}
}

func TestNew(t *testing.T) {
	for _, s := range shapes() {
		newIs(t, s, api.ModeOne, 0)
		newIs(t, s, api.ModeTwo, s.Pages)
	}
	for pages := 1; pages <= mostPages; pages++ {
		s := api.Shape{Pages: pages, Slots: 2 + pages%16*2, Roots: 2 + pages%4*2, Room: 1 + 29*pages}
		newIs(t, s, modeOne, 0)
		newIs(t, s, modeTwo, pages)
	}
}

// TestNewIsEmpty: slots are open, roots have no names, and there are no bytes.
func TestNewIsEmpty(t *testing.T) {
	for _, shape := range shapes() {
		for _, mode := range []int{modeOne, modeTwo} {
			s, _ := New(shape, mode)
			if slices.ContainsFunc(s.Slots, func(one api.Slot) bool { return one != api.Slot{} }) ||
				slices.ContainsFunc(s.Roots, func(r api.Root) bool { return r != api.Root{} }) ||
				slices.ContainsFunc(s.Data, func(b []byte) bool { return len(b) != 0 }) ||
				len(s.Data) != shape.Slots {
				t.Errorf("New(%+v, %d) = %+v", shape, mode, s)
			}
		}
	}
}

func TestNewOfWrongModes(t *testing.T) {
	for _, s := range shapes() {
		for _, mode := range append(far(), modeUp, modeDown, -1, 0, 5, 6, 64) {
			newRefused(t, s, mode)
		}
	}
}

func TestNewOfWrongShapes(t *testing.T) {
	for _, s := range wrongShapes() {
		for mode := -1; mode <= 5; mode++ {
			newRefused(t, s, mode)
		}
		newRefused(t, s, math.MinInt)
		newRefused(t, s, math.MaxInt)
		newRefused(t, s, s.Pages)
	}
}

// P18.1: Right

// TestBareHeads: each mode with each base, and with those past its pages, in a heap without objects.
func TestBareHeads(t *testing.T) {
	for _, shape := range shapes() {
		for mode := -1; mode <= 6; mode++ {
			for base := -2; base <= shape.Pages+2; base++ {
				look(t, bare(shape, mode, base))
			}
		}
		right(t, "ModeOne", bare(shape, modeOne, 0))
		right(t, "ModeTwo", bare(shape, modeTwo, shape.Pages))
		for base := range shape.Pages + 1 {
			right(t, "ModeUp", bare(shape, modeUp, base))
			right(t, "ModeDown", bare(shape, modeDown, base))
		}
		wrong(t, "ModeOne, base 1", bare(shape, modeOne, 1))
		wrong(t, "ModeTwo, base a page less", bare(shape, modeTwo, shape.Pages-1))
	}
}

func TestWrongHeads(t *testing.T) {
	for _, n := range far() {
		for _, mode := range modes() {
			wrong(t, "base", bare(api.Shape{Pages: 4, Slots: 2, Roots: 2, Room: 1}, mode, n))
		}
		for _, base := range []int{0, 1, 4} {
			wrong(t, "mode", bare(small(), n, base))
		}
	}
	for _, shape := range wrongShapes() {
		// Slots and roots are as many as the shape says, where there can be so many, else as small has them.
		of := api.Shape{Slots: shape.Slots, Roots: shape.Roots}
		if of.Slots < 0 || of.Slots > 64 {
			of.Slots = 4
		}
		if of.Roots < 0 || of.Roots > 64 {
			of.Roots = 2
		}
		for _, mode := range modes() {
			for _, base := range []int{0, 1, 4, shape.Pages} {
				s := bare(of, mode, base)
				s.Shape = shape
				wrong(t, "shape", s)
			}
		}
	}
	wrong(t, "zero", api.State{})
	wrong(t, "zero of a mode", api.State{Mode: modeUp})
}

// TestRowsTooManyAndTooFew: slots, roots and data are as many as the shape says.
func TestRowsTooManyAndTooFew(t *testing.T) {
	for _, shape := range shapes() {
		for _, s := range []api.State{bare(shape, modeOne, 0), bare(shape, modeTwo, shape.Pages), bare(shape, modeUp, 1), laid(bare(shape, modeOne, 0), false, 0, 0, 1)} {
			right(t, "as many", s)
			for _, by := range []int{-2, -1, 1, 2} {
				more := own(s)
				more.Slots = resized(more.Slots, by)
				wrong(t, "slots", more)
				more.Data = resized(more.Data, by)
				wrong(t, "slots and data", more)
				more = own(s)
				more.Data = resized(more.Data, by)
				wrong(t, "data", more)
				more = own(s)
				more.Roots = resized(more.Roots, by)
				wrong(t, "roots", more)
				more = own(s)
				more.Shape.Slots += by
				wrong(t, "the shape's slots", more)
				more = own(s)
				more.Shape.Roots += by
				wrong(t, "the shape's roots", more)
			}
			none := own(s)
			none.Slots = nil
			wrong(t, "no slots", none)
			none.Data = nil
			wrong(t, "no slots, no data", none)
			none = own(s)
			none.Data = nil
			wrong(t, "no data", none)
			none = own(s)
			none.Roots = nil
			wrong(t, "no roots", none)
		}
	}
}

// resized is a row with so many more behind it, that are zero, or fewer.
func resized[T any](l []T, by int) []T {
	if by < 0 {
		return l[:max(len(l)+by, 0)]
	}
	return append(slices.Clone(l), make([]T, by)...)
}

// TestWrongSlots: a slot that table refuses makes the state not right, live or not.
func TestWrongSlots(t *testing.T) {
	base := laid(bare(small(), modeUp, 2), false, 1, 64, 5)
	base = laid(base, true, 2, 4, 5)
	base.Slots[3].Gen = lastGen
	right(t, "one of each, one spent", base)
	for k := range base.Slots {
		for _, gen := range append(far(), -1, lastGen+1) {
			s := own(base)
			s.Slots[k].Gen = gen
			if gen >= 0 && gen <= lastGen {
				right(t, "Gen", s)
			} else {
				wrong(t, "Gen", s)
			}
		}
		for _, gen := range []int{0, 1, lastGen - 1, lastGen} {
			s := own(base)
			s.Slots[k].Gen = gen
			right(t, "Gen", s)
		}
	}
	for _, k := range []int{0, 3} {
		for _, slot := range []api.Slot{
			{Two: true}, {At: 4}, {Len: 5}, {At: -1}, {Len: -1}, {Gen: lastGen, Two: true}, {Gen: 1, At: 100}, {Gen: lastGen, Len: 1},
			{At: math.MaxInt}, {At: math.MinInt}, {Len: math.MaxInt}, {Len: math.MinInt}, {Two: true, At: 6, Len: 5},
		} {
			s := own(base)
			s.Slots[k] = slot
			wrong(t, "not live", s)
			s.Data[k] = filling(k, min(max(slot.Len, 0), 5))
			wrong(t, "not live, with bytes", s)
		}
	}
	for _, two := range []bool{false, true} {
		for _, n := range append(far(), 0) {
			if n < 1 || n > lastLen {
				wrong(t, "Len", with(base, 0, two, 96, n))
			}
		}
		for _, at := range append(far(), lastWord+1) {
			if at < 0 || at > 128 {
				wrong(t, "At", with(base, 0, two, at, 5))
			}
		}
	}
}

func TestRoots(t *testing.T) {
	for _, one := range []struct {
		l  []api.Root
		is bool
	}{
		{[]api.Root{{}, {}}, true},
		{[]api.Root{{Name: "a"}, {}}, true},
		{[]api.Root{{}, {Name: "a", To: api.Handle{Index: 31, Gen: 65535}}}, true},
		{[]api.Root{{Name: "a", To: api.Handle{Index: 1, Gen: 1}}, {Name: "b", To: api.Handle{Index: 1, Gen: 1}}}, true},
		{[]api.Root{{Name: "sixteen bytes.éé"}, {Name: "A"}}, false}, // 18 bytes, one of them a space
		{[]api.Root{{Name: "sixteenbytes.éé."}, {Name: "A"}}, false},
		{[]api.Root{{Name: "sixteen.bytes.é"}, {Name: "A"}}, true},
		{[]api.Root{{Name: "a"}, {Name: "a"}}, false},
		{[]api.Root{{Name: "a"}, {Name: "a", To: api.Handle{Index: 1}}}, false},
		{[]api.Root{{Name: "a b"}, {}}, false},
		{[]api.Root{{Name: "\xff"}, {}}, false},
		{[]api.Root{{}, {Name: "\x7f"}}, false},
		{[]api.Root{{To: api.Handle{Index: 1}}, {}}, false},
		{[]api.Root{{}, {To: api.Handle{Gen: 1}}}, false},
		{[]api.Root{{Name: "a", To: api.Handle{Index: 32}}, {}}, false},
		{[]api.Root{{Name: "a", To: api.Handle{Index: -1}}, {}}, false},
		{[]api.Root{{Name: "a", To: api.Handle{Gen: 65536}}, {}}, false},
		{[]api.Root{{}, {Name: "a", To: api.Handle{Gen: -1}}}, false},
	} {
		for _, mode := range modes() {
			s := bare(small(), mode, map[bool]int{false: 0, true: 4}[mode == modeTwo])
			s.Roots = one.l
			if Right(s) != one.is {
				t.Errorf("Right with roots %+v = %v", one.l, !one.is)
			}
			look(t, s)
		}
	}
}

// TestRootsMayNameNothing: a root's handle need not be a live slot's, nor one of the table's.
func TestRootsMayNameNothing(t *testing.T) {
	s := laid(bare(small(), modeOne, 0), false, 1, 8, 3)
	for _, to := range []api.Handle{{Index: 0}, {Index: 1}, {Index: 1, Gen: 1}, {Index: 4}, {Index: 31, Gen: 9}} {
		s.Roots[1] = api.Root{Name: "r", To: to}
		right(t, "a root", s)
	}
}

// TestDataFits: of live slots as many bytes as Len, of others none.
func TestDataFits(t *testing.T) {
	s := bare(api.Shape{Pages: 40, Slots: 8, Roots: 2, Room: 60}, modeUp, 16)
	s = laid(s, false, 0, 512, 1, 2, 516, 2, 3, 600, lastLen)
	s = laid(s, true, 4, 4, 1, 5, 64, 121, 6, 128, lastLen)
	s.Slots[7].Gen = lastGen
	right(t, "as many bytes", s)
	for k, slot := range s.Slots {
		for _, n := range []int{0, slot.Len - 2, slot.Len - 1, slot.Len + 1, slot.Len + 2, lastLen, lastLen + 1, 2 * lastLen} {
			if n < 0 || n == slot.Len {
				continue
			}
			other := own(s)
			other.Data[k] = filling(k, n)
			wrong(t, "other bytes", other)
		}
		// Which bytes they are does not matter.
		other := own(s)
		clear(other.Data[k])
		right(t, "bytes 0", other)
		other.Data[k] = other.Data[k][:slot.Len:slot.Len]
		right(t, "no spare room", other)
	}
	swapped := own(s)
	swapped.Data[0], swapped.Data[2] = swapped.Data[2], swapped.Data[0]
	wrong(t, "each other's bytes", swapped)
	empty := own(s)
	for k := range empty.Data {
		if len(empty.Data[k]) == 0 {
			empty.Data[k] = []byte{}
		}
	}
	right(t, "empty rows that are not nil", empty)
	empty.Data[1] = bytes.Repeat([]byte{1}, 9)[:0]
	right(t, "an empty row with spare room", empty)
}
