package table

import (
	"bytes"
	"math"
	"slices"
	"testing"

	"joist/api"
)

// The limits, written out: the tests must not lean on what they hold the package against.
const (
	maxSlots = 32
	lastGen  = 65535
	lastAt   = 64 * 32
	lastLen  = 2048
	perSlot  = 32 // bytes
)

// dice are numbers without an order that anybody sees, but the same each time.
func dice(seed uint32) func(n int) int {
	return func(n int) int {
		seed = seed*1664525 + 1013904223
		return int(seed>>8) % n
	}
}

// The kinds of slots of a right table.
func free(gen int) api.Slot { return api.Slot{Gen: gen} }

func live(gen, at, length int) api.Slot {
	return api.Slot{Gen: gen, Live: true, At: at, Len: length}
}

func liveTwo(gen, at, length int) api.Slot {
	return api.Slot{Gen: gen, Live: true, Two: true, At: at, Len: length}
}

// slotMay is the chapter's definition of a slot that is, word by word.
func slotMay(s api.Slot) bool {
	gen := 0 <= s.Gen && s.Gen <= lastGen
	if s.Live {
		return gen && 0 <= s.At && s.At <= lastAt && 1 <= s.Len && s.Len <= lastLen
	}
	return gen && !s.Two && s.At == 0 && s.Len == 0
}

// isRight is the chapter's definition of a right table.
func isRight(l []api.Slot) bool {
	if len(l) < 2 || len(l) > maxSlots || len(l)&1 == 1 {
		return false
	}
	return !slices.ContainsFunc(l, func(s api.Slot) bool { return !slotMay(s) })
}

// isOpen: not live, and not spent.
func isOpen(s api.Slot) bool {
	spent := !s.Live && s.Gen == lastGen
	return !s.Live && !spent
}

// opens are the indices of open slots, from the front.
func opens(l []api.Slot) []int {
	var out []int
	for k, s := range l {
		if isOpen(s) {
			out = append(out, k)
		}
	}
	return out
}

// word is a number in eight bytes, by hand.
func word(n int) []byte {
	b := make([]byte, 8)
	for i := range b {
		b[i] = byte(n % 256)
		n /= 256
	}
	return b
}

// linkOf is the fourth word of slot k.
func linkOf(l []api.Slot, k int) int {
	if !isOpen(l[k]) {
		return 0
	}
	for next := k + 1; next < len(l); next++ {
		if isOpen(l[next]) {
			return next + 1
		}
	}
	return 0
}

// written is the chapter's section on bytes, word by word.
func written(l []api.Slot) []byte {
	var b []byte
	for k, s := range l {
		head := 4 * s.Gen
		if s.Live {
			head += 2
		}
		if s.Two {
			head++
		}
		b = slices.Concat(b, word(head), word(s.At), word(s.Len), word(linkOf(l, k)))
	}
	return b
}

// number is the word at a place, and false if it is more than limit.
func number(b []byte, at, limit int) (int, bool) {
	n := 0
	for i := 7; i >= 0; i-- {
		if n > limit {
			return 0, false
		}
		n = n*256 + int(b[at*8+i])
	}
	return n, n <= limit
}

// told is the table that bytes are, without what is tested: it goes by each word and each link on its own.
func told(b []byte) ([]api.Slot, bool) {
	if len(b)%perSlot != 0 {
		return nil, false
	}
	var l []api.Slot
	for k := range len(b) / perSlot {
		head, first := number(b, 4*k, 4*lastGen+3)
		at, second := number(b, 4*k+1, lastAt)
		length, third := number(b, 4*k+2, lastLen)
		if !first || !second || !third {
			return nil, false
		}
		l = append(l, api.Slot{Gen: head / 4, Live: head%4 >= 2, Two: head%2 == 1, At: at, Len: length})
	}
	if !isRight(l) {
		return nil, false
	}
	for k := range l {
		if link, is := number(b, 4*k+3, maxSlots); !is || link != linkOf(l, k) {
			return nil, false
		}
	}
	return l, true
}

// kinds are slots of all kinds that a right table may have.
func kinds() []api.Slot {
	return []api.Slot{
		free(0), free(1), free(lastGen - 1), free(lastGen),
		live(0, 0, 1), live(1, 4, 5), live(lastGen-1, lastAt, lastLen), live(lastGen, 1, 2047),
		liveTwo(0, lastAt-1, 2), liveTwo(7, 0, 1), liveTwo(lastGen, lastAt, lastLen),
	}
}

// few are an open slot, a spent one and a live one.
func few() []api.Slot {
	return []api.Slot{free(3), free(lastGen), live(9, 12, 7)}
}

// edges are numbers at and around a field's limits, and far beyond them.
func edges(limits ...int) []int {
	l := []int{math.MinInt, math.MinInt + 1, -1 << 32, -65536, -2, -1, 0, 1, 2, 3, 1 << 16, 1 << 31, 1 << 32, 1<<32 + 1, 1 << 62, math.MaxInt - 1, math.MaxInt}
	for _, n := range limits {
		l = append(l, n-1, n, n+1)
	}
	slices.Sort(l)
	return slices.Compact(l)
}

// oddSlots are slots of all fields' edges: those that may be, and those that may not.
func oddSlots() []api.Slot {
	var l []api.Slot
	for _, gen := range []int{math.MinInt, -1, 0, 1, lastGen - 1, lastGen, lastGen + 1, 2*lastGen + 1, 1 << 32, math.MaxInt} {
		for _, at := range []int{math.MinInt, -1, 0, 1, lastAt - 1, lastAt, lastAt + 1, 1 << 32, math.MaxInt} {
			for _, length := range []int{math.MinInt, -1, 0, 1, lastLen - 1, lastLen, lastLen + 1, 1 << 32, math.MaxInt} {
				for bits := range 4 {
					l = append(l, api.Slot{Gen: gen, Live: bits&1 != 0, Two: bits&2 != 0, At: at, Len: length})
				}
			}
		}
	}
	return l
}

// rows are all rows of n slots out of some.
func rows(n int, some []api.Slot) [][]api.Slot {
	out := [][]api.Slot{nil}
	for range n {
		var next [][]api.Slot
		for _, l := range out {
			for _, s := range some {
				next = append(next, append(slices.Clone(l), s))
			}
		}
		out = next
	}
	return out
}

// rollSlot is a slot that may be.
func rollSlot(roll func(int) int) api.Slot {
	s := api.Slot{Gen: roll(lastGen + 1)}
	if roll(4) == 0 {
		s.Gen = lastGen - roll(3)
	}
	if roll(2) == 0 {
		return s
	}
	s.Live, s.Two, s.At, s.Len = true, roll(2) == 0, roll(lastAt+1), 1+roll(lastLen)
	return s
}

// rollTable is a right table.
func rollTable(roll func(int) int) []api.Slot {
	l := make([]api.Slot, 2+2*roll(16))
	for k := range l {
		l[k] = rollSlot(roll)
	}
	return l
}

// filled is a table of n slots that are all alike.
func filled(n int, s api.Slot) []api.Slot {
	return slices.Repeat([]api.Slot{s}, n)
}

// tables are right tables: small ones of all kinds of slots, those of the edges, mixed ones.
func tables() [][]api.Slot {
	l := append(rows(2, kinds()), rows(4, few())...)
	for _, n := range []int{2, 4, 6, 16, 30, 32} {
		for _, s := range kinds() {
			l = append(l, filled(n, s))
		}
	}
	roll := dice(1)
	for range 300 {
		l = append(l, rollTable(roll))
	}
	return l
}

// wrongTables are tables that are not right: of wrong numbers of slots, and with one slot that may not be, at the front, within and at the end.
func wrongTables() [][]api.Slot {
	l := [][]api.Slot{nil, {}}
	for _, n := range []int{1, 3, 5, 31, 33, 34, 35, 36, 64, 1000} {
		for _, s := range few() {
			l = append(l, filled(n, s))
		}
	}
	for _, n := range []int{2, 4, 32} {
		for _, at := range []int{0, n / 2, n - 1} {
			for _, s := range []api.Slot{
				free(-1), free(lastGen + 1), free(math.MinInt), free(math.MaxInt),
				{Two: true}, {At: 1}, {Len: 1}, {At: -1}, {Len: -1}, {Gen: 5, Two: true, At: 4, Len: 4}, {Gen: lastGen, At: 1}, {Gen: lastGen, Two: true},
				live(-1, 0, 1), live(lastGen+1, 0, 1), live(0, -1, 1), live(0, lastAt+1, 1), live(0, 0, 0), live(0, 0, -1), live(0, 0, lastLen+1),
				liveTwo(0, -1, 1), liveTwo(0, 0, 0), liveTwo(0, lastAt+1, 1), liveTwo(0, 0, lastLen+1), live(0, math.MaxInt, math.MaxInt), live(0, math.MinInt, 1),
			} {
				for _, other := range few() {
					wrong := filled(n, other)
					wrong[at] = s
					l = append(l, wrong)
				}
			}
		}
	}
	return l
}

// cut is a table as a test tells it: long ones in part.
func cut(l []api.Slot) []api.Slot { return l[:min(len(l), 6)] }

func take(t *testing.T, l []api.Slot, s api.Slot) ([]api.Slot, api.Handle) {
	t.Helper()
	out, h, e := Take(l, s)
	if e != api.OK {
		t.Fatalf("Take(%v, %v) tells %v", cut(l), s, e)
	}
	return out, h
}

func takeRefused(t *testing.T, l []api.Slot, s api.Slot, want api.Errno) {
	t.Helper()
	if out, h, e := Take(l, s); len(out) != 0 || h != (api.Handle{}) || e != want {
		t.Errorf("Take(%v of %d, %v) = %v, %v, %v; want none, %v", cut(l), len(l), s, cut(out), h, e, want)
	}
}

func freed(t *testing.T, l []api.Slot, k int) []api.Slot {
	t.Helper()
	out, e := Free(l, k)
	if e != api.OK {
		t.Fatalf("Free(%v, %d) tells %v", cut(l), k, e)
	}
	return out
}

func freeRefused(t *testing.T, l []api.Slot, k int) {
	t.Helper()
	if out, e := Free(l, k); len(out) != 0 || e != api.ErrArg {
		t.Errorf("Free(%v of %d, %d) = %v, %v; want none, ErrArg", cut(l), len(l), k, cut(out), e)
	}
}

func bytesOf(t *testing.T, l []api.Slot) []byte {
	t.Helper()
	b, e := Bytes(l)
	if e != api.OK {
		t.Fatalf("Bytes(%v) tells %v", cut(l), e)
	}
	return b
}

// sameAsTold holds Read against the tests' own reader.
func sameAsTold(t *testing.T, b []byte) bool {
	t.Helper()
	want, right := told(b)
	l, is := Read(b)
	if is != right || !slices.Equal(l, want) {
		t.Fatalf("Read of %d bytes = %v, %v; want %v, %v", len(b), cut(l), is, cut(want), right)
	}
	return is
}

func readRefused(t *testing.T, b []byte) {
	t.Helper()
	if l, is := Read(b); len(l) != 0 || is {
		t.Errorf("Read of %d bytes = %v, %v; want none, false", len(b), cut(l), is)
	}
}

// P8.1

func TestLimits(t *testing.T) {
	if api.MaxSlots != maxSlots || api.MaxGen != lastGen || api.MaxPages*api.PageWords != lastAt || api.MaxLen != lastLen || api.ErrArg != 1 || api.ErrTable != 9 || api.OK != 0 {
		t.Error("the limits and errors are not the document's")
	}
}

func TestNew(t *testing.T) {
	for n := 2; n <= maxSlots; n += 2 {
		l, e := New(n)
		if e != api.OK || len(l) != n || slices.ContainsFunc(l, func(s api.Slot) bool { return s != (api.Slot{}) }) {
			t.Errorf("New(%d) = %v, %v", n, l, e)
		}
		if !Right(l) {
			t.Errorf("New(%d) is not right", n)
		}
	}
}

// TestNewRefuses: W3: none beside ErrArg.
func TestNewRefuses(t *testing.T) {
	l := append(edges(), -32, -4, 33, 34, 35, 36, 64)
	for n := 1; n < maxSlots; n += 2 {
		l = append(l, n, -n)
	}
	for _, n := range l {
		if n == 2 {
			continue
		}
		if out, e := New(n); len(out) != 0 || e != api.ErrArg {
			t.Errorf("New(%d) = %v, %v; want none, ErrArg", n, out, e)
		}
	}
}

func TestRightOfTables(t *testing.T) {
	for _, l := range tables() {
		if !Right(l) {
			t.Errorf("Right(%v of %d) = false", cut(l), len(l))
		}
	}
}

func TestRightOfOthers(t *testing.T) {
	for _, l := range wrongTables() {
		if Right(l) {
			t.Errorf("Right(%v of %d) = true", cut(l), len(l))
		}
	}
}

func TestRightOfLengths(t *testing.T) {
	for n := range 100 {
		for _, s := range kinds() {
			want := n >= 2 && n <= maxSlots && n%2 == 0
			if Right(filled(n, s)) != want {
				t.Errorf("Right of %d slots %v = %v", n, s, !want)
			}
			// Spare room does not count.
			if Right(filled(n+40, s)[:n]) != want {
				t.Errorf("Right of %d slots %v, with spare room = %v", n, s, !want)
			}
		}
	}
}

// TestRightOfEachSlot: one slot that may not be is enough, wherever it stands.
func TestRightOfEachSlot(t *testing.T) {
	for _, s := range oddSlots() {
		for n := 2; n <= maxSlots; n += 10 {
			for _, k := range []int{0, 1, n - 1} {
				l := filled(n, free(1))
				l[k] = s
				if Right(l) != slotMay(s) {
					t.Errorf("slot %d of %d is %v: Right = %v", k, n, s, !slotMay(s))
				}
			}
		}
	}
}

func TestRightOfEachEdge(t *testing.T) {
	for _, n := range edges(lastGen) {
		for _, s := range []api.Slot{free(n), live(n, 4, 4), liveTwo(n, 4, 4)} {
			if want := 0 <= n && n <= lastGen; Right([]api.Slot{{}, s}) != want {
				t.Errorf("Gen: %v is %v", s, !want)
			}
		}
	}
	for _, n := range edges(lastAt) {
		for _, s := range []api.Slot{live(4, n, 4), liveTwo(4, n, 4)} {
			if want := 0 <= n && n <= lastAt; Right([]api.Slot{{}, s}) != want {
				t.Errorf("At: %v is %v", s, !want)
			}
		}
		if want := n == 0; Right([]api.Slot{{}, {At: n}}) != want {
			t.Errorf("not live, At %d: %v", n, !want)
		}
	}
	for _, n := range edges(lastLen) {
		for _, s := range []api.Slot{live(4, 4, n), liveTwo(4, 4, n)} {
			if want := 1 <= n && n <= lastLen; Right([]api.Slot{{}, s}) != want {
				t.Errorf("Len: %v is %v", s, !want)
			}
		}
		if want := n == 0; Right([]api.Slot{{}, {Len: n}}) != want {
			t.Errorf("not live, Len %d: %v", n, !want)
		}
	}
}

// P8.2: Find

func TestFind(t *testing.T) {
	l := []api.Slot{live(0, 0, 1), free(0), liveTwo(7, 4, 1), free(lastGen), live(lastGen, 8, 1), free(7)}
	for h, want := range map[api.Handle]bool{
		{Index: 0, Gen: 0}: true, {Index: 0, Gen: 1}: false, {Index: 0, Gen: -1}: false,
		{Index: 1, Gen: 0}: false, {Index: 1, Gen: 1}: false,
		{Index: 2, Gen: 7}: true, {Index: 2, Gen: 6}: false, {Index: 2, Gen: 8}: false, {Index: 2, Gen: 0}: false, {Index: 2, Gen: 7 + 65536}: false,
		{Index: 3, Gen: lastGen}: false, {Index: 3, Gen: 0}: false,
		{Index: 4, Gen: lastGen}: true, {Index: 4, Gen: lastGen + 1}: false, {Index: 4, Gen: -1}: false, {Index: 4, Gen: 0}: false,
		{Index: 5, Gen: 7}: false,
	} {
		k, is := Find(l, h)
		if is != want || is && k != h.Index || !is && k != 0 {
			t.Errorf("Find(l, %v) = %d, %v", h, k, is)
		}
	}
}

// TestFindOfWrongIndexes: 0 beside the false, also where slot 0 is the handle's.
func TestFindOfWrongIndexes(t *testing.T) {
	for _, n := range []int{0, 1, 2, 3, 4, 32, 34} {
		// The spare room holds live slots of the same Gen.
		l := filled(n+40, live(5, 4, 4))[:n]
		for _, index := range append(edges(n, maxSlots, n+39), -n) {
			k, is := Find(l, api.Handle{Index: index, Gen: 5})
			if want := index >= 0 && index < n; is != want || is && k != index || !is && k != 0 {
				t.Errorf("%d slots: Find of the index %d = %d, %v", n, index, k, is)
			}
		}
	}
}

// TestFindOfAll: each handle around each slot, in tables that are right and others: Find does not ask for more than P8.2 says.
func TestFindOfAll(t *testing.T) {
	for _, l := range slices.Concat(tables(), wrongTables(), [][]api.Slot{oddSlots()}) {
		for k, s := range l {
			for _, gen := range []int{s.Gen, s.Gen + 1, s.Gen - 1, 0, lastGen} {
				got, is := Find(l, api.Handle{Index: k, Gen: gen})
				want := s.Live && s.Gen == gen
				if is != want || is && got != k || !is && got != 0 {
					t.Fatalf("slot %d is %v: Find of Gen %d = %d, %v", k, s, gen, got, is)
				}
			}
		}
	}
}

// P8.2: Next and Chain

func sameOpens(t *testing.T, l []api.Slot) {
	t.Helper()
	want := opens(l)
	if got := Chain(l); !slices.Equal(got, want) {
		t.Errorf("Chain(%v of %d) = %v; want %v", cut(l), len(l), got, want)
	}
	k, is := Next(l)
	if is != (len(want) > 0) || is && k != want[0] || !is && k != 0 {
		t.Errorf("Next(%v of %d) = %d, %v; the open ones are %v", cut(l), len(l), k, is, want)
	}
}

func TestNextAndChain(t *testing.T) {
	l := []api.Slot{live(0, 0, 1), free(lastGen), free(2), live(lastGen, 0, 1), free(lastGen - 1), free(0)}
	if got := Chain(l); !slices.Equal(got, []int{2, 4, 5}) {
		t.Errorf("Chain = %v", got)
	}
	if k, is := Next(l); k != 2 || !is {
		t.Errorf("Next = %d, %v", k, is)
	}
	if k, is := Next(l[:2]); k != 0 || is {
		t.Errorf("Next of none = %d, %v", k, is)
	}
	if got := Chain(l[:2]); len(got) != 0 {
		t.Errorf("Chain of none = %v", got)
	}
}

func TestNextAndChainOfAllRows(t *testing.T) {
	for n := range 8 {
		for _, l := range rows(n, few()) {
			sameOpens(t, l)
		}
	}
	for _, l := range tables() {
		sameOpens(t, l)
	}
}

func TestNextOfFullAndSpentTables(t *testing.T) {
	for _, n := range []int{0, 1, 2, 3, 32, 34} {
		for _, s := range []api.Slot{free(lastGen), live(0, 0, 1), live(lastGen, 0, 1), liveTwo(4, 4, 4)} {
			l := filled(n, s)
			k, is := Next(l)
			if chain := Chain(l); k != 0 || is || len(chain) != 0 {
				t.Errorf("%d slots %v: Next = %d, %v, Chain = %v", n, s, k, is, chain)
			}
			// The only open slot stands at each place once.
			for at := range n {
				l := filled(n, s)
				l[at] = free(lastGen - 1)
				k, is := Next(l)
				if chain := Chain(l); k != at || !is || !slices.Equal(chain, []int{at}) {
					t.Errorf("%d slots %v, open at %d: Next = %d, %v, Chain = %v", n, s, at, k, is, chain)
				}
			}
		}
	}
}

// TestNextAndChainOfOthers: of tables that are not right, too, as P8.2 does not ask for it: open is what is not live and whose Gen is not MaxGen.
func TestNextAndChainOfOthers(t *testing.T) {
	for _, l := range append(wrongTables(), oddSlots()) {
		sameOpens(t, l)
	}
	for _, s := range oddSlots() {
		sameOpens(t, []api.Slot{s})
		sameOpens(t, []api.Slot{free(lastGen), s, free(0)})
	}
}

// P8.3

func TestExamples(t *testing.T) {
	l, _ := New(2)
	l, h := take(t, l, api.Slot{Len: 5, At: 4})
	if !slices.Equal(l, []api.Slot{live(0, 4, 5), {}}) || h != (api.Handle{}) {
		t.Errorf("Take = %v, %v", l, h)
	}
	l = freed(t, l, 0)
	if !slices.Equal(l, []api.Slot{free(1), {}}) {
		t.Errorf("Free = %v", l)
	}
	l, h = take(t, l, api.Slot{Len: 5, At: 4})
	if !slices.Equal(l, []api.Slot{live(1, 4, 5), {}}) || h != (api.Handle{Gen: 1}) {
		t.Errorf("Take again = %v, %v", l, h)
	}
}

// TestTakeOfTables: the first open slot of each table, and no other one.
func TestTakeOfTables(t *testing.T) {
	all := tables()
	for n := 2; n <= 6; n += 2 {
		all = append(all, rows(n, few())...)
	}
	for _, l := range all {
		chain := opens(l)
		if len(chain) == 0 {
			takeRefused(t, l, live(0, 4, 5), api.ErrTable)
			continue
		}
		for _, s := range []api.Slot{{At: 4, Len: 5}, {Two: true, At: lastAt, Len: lastLen}, {Len: 1}} {
			k := chain[0]
			want := slices.Clone(l)
			want[k] = api.Slot{Gen: l[k].Gen, Live: true, Two: s.Two, At: s.At, Len: s.Len}
			got, h := take(t, l, s)
			if !slices.Equal(got, want) || h != (api.Handle{Index: k, Gen: l[k].Gen}) {
				t.Fatalf("Take(%v, %v) = %v, %v", cut(l), s, cut(got), h)
			}
			if at, is := Find(got, h); at != k || !is || !Right(got) {
				t.Fatalf("Take(%v, %v): Find = %d, %v, Right = %v", cut(l), s, at, is, Right(got))
			}
		}
	}
}

// TestTakeOfEachSlot: of s the Two, At and Len matter, the Gen and Live do not, whatever they are.
func TestTakeOfEachSlot(t *testing.T) {
	l := []api.Slot{free(lastGen), live(2, 2, 2), free(lastGen - 1), free(0)}
	for _, s := range oddSlots() {
		want := live(lastGen-1, s.At, s.Len)
		want.Two = s.Two
		if !slotMay(want) {
			takeRefused(t, l, s, api.ErrArg)
			continue
		}
		got, h := take(t, l, s)
		if !slices.Equal(got, []api.Slot{l[0], l[1], want, l[3]}) || h != (api.Handle{Index: 2, Gen: lastGen - 1}) {
			t.Fatalf("Take(l, %v) = %v, %v", s, got, h)
		}
	}
}

func TestTakeAtTheEdges(t *testing.T) {
	l, _ := New(2)
	for _, n := range edges(lastAt) {
		for _, two := range []bool{false, true} {
			if _, _, e := Take(l, api.Slot{Two: two, At: n, Len: 1}); (e == api.OK) != (0 <= n && n <= lastAt) {
				t.Errorf("Take at %d: %v", n, e)
			}
		}
	}
	for _, n := range edges(lastLen) {
		for _, two := range []bool{false, true} {
			if _, _, e := Take(l, api.Slot{Two: two, Len: n}); (e == api.OK) != (1 <= n && n <= lastLen) {
				t.Errorf("Take of %d bytes: %v", n, e)
			}
		}
	}
}

// TestTakeTellsTheFirstError: a table that is not right ahead of one that has no room, that one ahead of a slot that may not be.
func TestTakeTellsTheFirstError(t *testing.T) {
	wrong := []api.Slot{{}, {Len: lastLen + 1, At: 4}, {At: -1, Len: 1}, {At: lastAt + 1, Len: 1}, {Two: true, Len: -1}, {Gen: -1, Live: true}}
	fine := []api.Slot{{Len: 1}, {Gen: -1, Two: true, At: lastAt, Len: lastLen}}
	for _, l := range wrongTables() {
		for _, s := range append(wrong, fine...) {
			takeRefused(t, l, s, api.ErrArg)
		}
	}
	for n := 2; n <= maxSlots; n += 2 {
		for _, of := range []api.Slot{free(lastGen), live(0, 0, 1), live(lastGen, 0, 1), liveTwo(3, 4, 4)} {
			for _, s := range append(wrong, fine...) {
				takeRefused(t, filled(n, of), s, api.ErrTable)
			}
		}
		for _, s := range wrong {
			takeRefused(t, filled(n, free(0)), s, api.ErrArg)
		}
	}
}

func TestTakeTillTheTableIsFull(t *testing.T) {
	for n := 2; n <= maxSlots; n += 2 {
		l, _ := New(n)
		for k := range n {
			var h api.Handle
			l, h = take(t, l, api.Slot{At: 4 * k, Len: k + 1, Two: k%3 == 0})
			if h != (api.Handle{Index: k}) || len(Chain(l)) != n-k-1 {
				t.Errorf("%d slots, Take %d: %v", n, k, h)
			}
		}
		takeRefused(t, l, api.Slot{Len: 1}, api.ErrTable)
		for k, s := range l {
			if s != (api.Slot{Live: true, At: 4 * k, Len: k + 1, Two: k%3 == 0}) {
				t.Errorf("%d slots, slot %d is %v", n, k, s)
			}
		}
	}
}

// P8.4

func TestFreeOfTables(t *testing.T) {
	for _, l := range tables() {
		for k, s := range l {
			if !s.Live {
				freeRefused(t, l, k)
				continue
			}
			want := slices.Clone(l)
			want[k] = free(s.Gen + 1)
			if s.Gen == lastGen {
				want[k] = free(lastGen)
			}
			got := freed(t, l, k)
			if !slices.Equal(got, want) || !Right(got) {
				t.Fatalf("Free(%v, %d) = %v", cut(l), k, cut(got))
			}
			if _, is := Find(got, api.Handle{Index: k, Gen: s.Gen}); is {
				t.Fatalf("Free(%v, %d): it is found", cut(l), k)
			}
		}
	}
}

func TestFreeAtTheLastGens(t *testing.T) {
	for _, r := range []struct {
		gen, want int
		open      bool
	}{{0, 1, true}, {lastGen - 2, lastGen - 1, true}, {lastGen - 1, lastGen, false}, {lastGen, lastGen, false}} {
		for _, s := range []api.Slot{live(r.gen, 4, 4), liveTwo(r.gen, lastAt, lastLen)} {
			l := freed(t, []api.Slot{live(1, 0, 1), s, live(2, 0, 1), free(lastGen)}, 1)
			if !slices.Equal(l, []api.Slot{live(1, 0, 1), free(r.want), live(2, 0, 1), free(lastGen)}) {
				t.Errorf("freed at Gen %d: %v", r.gen, l)
			}
			if k, is := Next(l); is != r.open || is && k != 1 {
				t.Errorf("freed at Gen %d: Next = %d, %v", r.gen, k, is)
			}
			if !r.open {
				takeRefused(t, l, api.Slot{Len: 1}, api.ErrTable)
				freeRefused(t, l, 1)
			}
		}
	}
}

func TestFreeRefuses(t *testing.T) {
	for _, n := range []int{2, 4, 32} {
		// The spare room holds live slots.
		l := filled(64, live(5, 4, 4))[:n]
		for _, k := range append(edges(n, maxSlots, 63), -n) {
			if k < 0 || k >= n {
				freeRefused(t, l, k)
			}
		}
	}
	for _, l := range wrongTables() {
		for k := -1; k <= len(l) && k < 40; k++ {
			freeRefused(t, l, k)
		}
	}
	for _, s := range []api.Slot{free(0), free(1), free(lastGen)} {
		for k := range 4 {
			l := filled(4, live(5, 4, 4))
			l[k] = s
			freeRefused(t, l, k)
		}
	}
}

func TestFreeTwice(t *testing.T) {
	l := freed(t, filled(4, live(5, 4, 4)), 2)
	freeRefused(t, l, 2)
	if got := freed(t, l, 3); !slices.Equal(got, []api.Slot{live(5, 4, 4), live(5, 4, 4), free(6), free(6)}) {
		t.Errorf("Free of both: %v", got)
	}
}

// P8.5: Bytes

func TestBytesExample(t *testing.T) {
	l := []api.Slot{liveTwo(0, 8, 3), free(0), free(lastGen), free(258), live(lastGen, lastAt, lastLen), free(1)}
	var want []byte
	for _, n := range []int{3, 8, 3, 0, 0, 0, 0, 4, 262140, 0, 0, 0, 1032, 0, 0, 6, 262142, 2048, 2048, 0, 4, 0, 0, 0} {
		want = append(want, byte(n), byte(n/256), byte(n/65536), 0, 0, 0, 0, 0)
	}
	if b := bytesOf(t, l); !bytes.Equal(b, want) {
		t.Errorf("Bytes = %v; want %v", b, want)
	}
	if got, is := Read(want); !slices.Equal(got, l) || !is {
		t.Errorf("Read = %v, %v", got, is)
	}
}

func TestBytesOfNew(t *testing.T) {
	for n := 2; n <= maxSlots; n += 2 {
		l, _ := New(n)
		b := bytesOf(t, l)
		if len(b) != n*perSlot {
			t.Fatalf("%d slots: %d bytes", n, len(b))
		}
		for at := range b {
			want := 0
			if at%perSlot == 24 && at/perSlot+1 < n {
				want = at/perSlot + 2
			}
			if int(b[at]) != want {
				t.Errorf("%d slots: byte %d is %d; want %d", n, at, b[at], want)
			}
		}
	}
}

func TestBytesOfTables(t *testing.T) {
	for _, l := range append(tables(), rows(6, few())...) {
		if b := bytesOf(t, l); !bytes.Equal(b, written(l)) {
			t.Fatalf("Bytes(%v) = %v; want %v", cut(l), b, written(l))
		}
	}
}

// TestBytesRefuses: W3: none beside ErrArg.
func TestBytesRefuses(t *testing.T) {
	for _, l := range wrongTables() {
		if b, e := Bytes(l); len(b) != 0 || e != api.ErrArg {
			t.Errorf("Bytes(%v of %d) = %v, %v; want none, ErrArg", cut(l), len(l), b, e)
		}
	}
	for _, s := range oddSlots() {
		b, e := Bytes([]api.Slot{s, {}})
		if is := slotMay(s); (e == api.OK) != is || !is && (e != api.ErrArg || len(b) != 0) {
			t.Errorf("Bytes with %v = %v, %v", s, b, e)
		}
	}
}

// P8.5: Read

func TestReadOfTables(t *testing.T) {
	for _, want := range append(tables(), rows(6, few())...) {
		if l, is := Read(written(want)); !slices.Equal(l, want) || !is {
			t.Fatalf("Read of the bytes of %v = %v, %v", cut(want), cut(l), is)
		}
	}
}

// TestReadOfLengths: whole tables of right numbers of slots alone.
func TestReadOfLengths(t *testing.T) {
	readRefused(t, nil)
	readRefused(t, []byte{})
	for n := range 40 {
		for _, s := range kinds() {
			b := written(filled(n, s))
			_, is := Read(b)
			if want := n >= 2 && n <= maxSlots && n%2 == 0; is != want {
				t.Errorf("%d slots %v: Read = %v", n, s, is)
			}
			for _, more := range []int{1, 7, 8, 16, 24, 31} {
				readRefused(t, append(slices.Clone(b), make([]byte, more)...))
				if len(b) > 0 {
					readRefused(t, b[:len(b)-more])
				}
			}
		}
	}
	for n := range 2*perSlot*maxSlots + 1 {
		sameAsTold(t, make([]byte, n))
		sameAsTold(t, bytes.Repeat([]byte{255}, n))
	}
	readRefused(t, make([]byte, 1<<20))
}

// TestReadOfTurnedBytes lays each value at each place of a table's bytes: some of them are another table's, most are none's.
func TestReadOfTurnedBytes(t *testing.T) {
	for _, l := range [][]api.Slot{
		{{}, {}},
		{free(lastGen), live(lastGen, lastAt, lastLen)},
		{free(lastGen - 1), free(7), liveTwo(1, 4, 5), free(1)},
		{live(0, 0, 1), free(0), free(lastGen), free(2), live(3, 8, 256), free(lastGen)},
	} {
		right := written(l)
		others := 0
		for at := range right {
			for n := range 256 {
				b := slices.Clone(right)
				b[at] = byte(n)
				if sameAsTold(t, b) && byte(n) != right[at] {
					others++
				}
				if at%8 >= 3 && byte(n) != right[at] {
					readRefused(t, b)
				}
			}
		}
		if others == 0 {
			t.Errorf("%v: no turned byte made another table", l)
		}
	}
}

func TestReadOfTurnedBytesOfAGreatTable(t *testing.T) {
	right := written(filled(maxSlots, free(5)))
	for at := range right {
		for bit := range 8 {
			b := slices.Clone(right)
			b[at] ^= 1 << bit
			sameAsTold(t, b)
		}
	}
}

// linked are the bytes of a table with other links.
func linked(l []api.Slot, links ...int) []byte {
	b := written(l)
	for k, n := range links {
		copy(b[k*perSlot+24:], word(n))
	}
	return b
}

func TestReadOfWrongLinks(t *testing.T) {
	l := []api.Slot{free(0), live(0, 0, 1), free(1), free(lastGen), free(2), free(3)}
	if got, is := Read(linked(l, 3, 0, 5, 0, 6, 0)); !slices.Equal(got, l) || !is {
		t.Errorf("Read = %v, %v", got, is)
	}
	for _, links := range [][]int{
		{0, 0, 0, 0, 0, 0},     // none
		{2, 0, 4, 0, 5, 0},     // indices, not 1 more
		{4, 0, 6, 0, 7, 0},     // 2 more
		{5, 0, 0, 0, 6, 0},     // an open one is skipped
		{3, 0, 6, 0, 0, 0},     // so is the one ahead of the last
		{3, 0, 5, 0, 0, 0},     // and the last
		{0, 0, 5, 0, 6, 0},     // and the first
		{2, 3, 5, 0, 6, 0},     // a live one stands in it
		{3, 0, 4, 5, 6, 0},     // a spent one does
		{3, 3, 5, 0, 6, 0},     // a live one has a link
		{3, 0, 5, 5, 6, 0},     // a spent one has
		{3, 0, 5, 0, 6, 1},     // it goes round
		{0, 0, 1, 0, 3, 5},     // it falls
		{3, 0, 1, 0, 6, 0},     // there and back
		{1, 0, 5, 0, 6, 0},     // to itself
		{3, 0, 3, 0, 6, 0},     // likewise
		{3, 0, 5, 0, 6, 6},     // likewise
		{5, 0, 6, 0, 3, 0},     // not rising
		{3, 0, 5, 0, 6, 7},     // beyond the table
		{3, 0, 5, 0, 6, 33},    // beyond all tables
		{3, 0, 5, 0, 6, 1e18},  // far beyond them
		{3, 0, 5, 0, 262, 0},   // alike in its lowest byte
		{259, 0, 5, 0, 6, 0},   // likewise
		{3, 0, 5, 0, 6, 65536}, // likewise
	} {
		readRefused(t, linked(l, links...))
	}
}

// TestReadOfAllLinks: of all links that four slots might have, those of the chapter alone, however the slots are.
func TestReadOfAllLinks(t *testing.T) {
	for _, l := range rows(4, few()) {
		good := 0
		for n := range 6 * 6 * 6 * 6 {
			if sameAsTold(t, linked(l, n%6, n/6%6, n/36%6, n/216)) {
				good++
			}
		}
		if good != 1 {
			t.Errorf("%v: %d rows of links are read", l, good)
		}
	}
}

// TestReadOfWrongSlots: the bytes that slots that may not be would have.
func TestReadOfWrongSlots(t *testing.T) {
	for _, s := range oddSlots() {
		if s.Gen < 0 || s.At < 0 || s.Len < 0 || s.Gen > 1<<59 || s.At > 1<<61 || s.Len > 1<<61 {
			continue
		}
		for _, l := range [][]api.Slot{{s, free(1)}, {free(1), s}, {live(0, 0, 1), s, free(lastGen), free(0)}} {
			sameAsTold(t, written(l))
			sameAsTold(t, linked(l, 0, 0))
			if got, is := Read(written(l)); is != slotMay(s) || is && !slices.Equal(got, l) {
				t.Fatalf("Read of the bytes of %v = %v, %v", l, got, is)
			}
		}
	}
}

// TestReadOfNoWords: numbers above MaxWord, also those that would look like a right slot if they were cut.
func TestReadOfNoWords(t *testing.T) {
	for _, l := range [][]api.Slot{{{}, {}}, {live(3, 4, 5), liveTwo(1, 0, 1)}, {free(lastGen), free(lastGen)}} {
		for w := range 8 {
			for _, top := range []byte{64, 128, 192, 255, 63} {
				b := written(l)
				b[w*8+7] = top
				readRefused(t, b)
			}
		}
	}
}

// P8.6

const spareOf = 40

// odd is what stands in spare room: no call writes it.
func odd() api.Slot { return api.Slot{Gen: -77, Live: true, Two: true, At: -78, Len: -79} }

// roomy is a copy of l with spare room behind it.
func roomy(l []api.Slot) []api.Slot {
	all := append(slices.Clone(l), filled(spareOf, odd())...)
	return all[:len(l):len(all)]
}

func roomyBytes(b []byte) []byte {
	all := append(slices.Clone(b), bytes.Repeat([]byte{0xee}, spareOf)...)
	return all[:len(b):len(all)]
}

func unchanged(t *testing.T, l, was []api.Slot) {
	t.Helper()
	if !slices.Equal(l, was) || !slices.Equal(l[len(l):cap(l)], filled(cap(l)-len(l), odd())) {
		t.Fatalf("%v became %v, or its spare room is changed", cut(was), cut(l))
	}
}

// scribble writes over a table, its spare room too.
func scribble(l []api.Slot) {
	for k := range l[:cap(l)] {
		l[:cap(l)][k] = odd()
	}
}

func scribbleBytes(b []byte) {
	for i := range b[:cap(b)] {
		b[:cap(b)][i] = 0xee
	}
}

func TestNothingHandedInIsChanged(t *testing.T) {
	for _, was := range append(tables(), wrongTables()...) {
		l := roomy(was)
		Right(l)
		Next(l)
		Chain(l)
		Bytes(l)
		for _, s := range []api.Slot{{Len: 1}, liveTwo(3, 8, 9), {}} {
			Take(l, s)
		}
		for k := -1; k <= len(l); k++ {
			Find(l, api.Handle{Index: k})
			Free(l, k)
		}
		unchanged(t, l, was)
		was := written(was)
		b := roomyBytes(was)
		Read(b)
		if !bytes.Equal(b, was) || !bytes.Equal(b[len(b):cap(b)], bytes.Repeat([]byte{0xee}, spareOf)) {
			t.Fatal("Read changed its bytes, or their spare room")
		}
	}
}

// TestNothingIsKept: an answer stays as it was, when what was handed in is written over.
func TestNothingIsKept(t *testing.T) {
	for _, was := range tables() {
		for k := range was {
			l := roomy(was)
			got, e := Free(l, k)
			want := slices.Clone(got)
			scribble(l)
			if e == api.OK && !slices.Equal(got, want) {
				t.Fatalf("Free(%v, %d) shares memory", cut(was), k)
			}
		}
		l := roomy(was)
		got, _, e := Take(l, api.Slot{At: 8, Len: 9})
		chain, b := Chain(l), bytesOf(t, l)
		want := slices.Clone(got)
		scribble(l)
		if e == api.OK && !slices.Equal(got, want) || !slices.Equal(chain, opens(was)) || !bytes.Equal(b, written(was)) {
			t.Fatalf("Take, Chain or Bytes of %v share memory", cut(was))
		}
		in := roomyBytes(b)
		read, _ := Read(in)
		scribbleBytes(in)
		if !slices.Equal(read, was) {
			t.Fatalf("Read of the bytes of %v shares memory", cut(was))
		}
	}
}

// TestAnswersAreNewMemory: what was handed in, and other answers, stay as they were, when an answer and its spare room are written over.
func TestAnswersAreNewMemory(t *testing.T) {
	for _, was := range tables() {
		l := roomy(was)
		for k := range was {
			first, _ := Free(l, k)
			second, _ := Free(l, k)
			want := slices.Clone(second)
			scribble(first)
			if !slices.Equal(second, want) {
				t.Fatalf("two answers of Free(%v, %d) share memory", cut(was), k)
			}
			scribble(second)
			unchanged(t, l, was)
		}
		first, _, _ := Take(l, api.Slot{Two: true, Len: 9})
		second, _, _ := Take(l, api.Slot{Two: true, Len: 9})
		want := slices.Clone(second)
		scribble(first)
		if !slices.Equal(second, want) {
			t.Fatalf("two answers of Take(%v) share memory", cut(was))
		}
		scribble(second)
		unchanged(t, l, was)
	}
}

func TestOtherAnswersAreNewMemory(t *testing.T) {
	for _, was := range tables() {
		chain := Chain(was)
		for i := range chain[:cap(chain)] {
			chain[:cap(chain)][i] = -7
		}
		if !slices.Equal(Chain(was), opens(was)) {
			t.Fatalf("two answers of Chain(%v) share memory", cut(was))
		}
		scribbleBytes(bytesOf(t, was))
		b := bytesOf(t, was)
		if !bytes.Equal(b, written(was)) {
			t.Fatalf("two answers of Bytes(%v) share memory", cut(was))
		}
		read, _ := Read(b)
		scribble(read)
		if again, is := Read(b); !slices.Equal(again, was) || !is || !bytes.Equal(b, written(was)) {
			t.Fatalf("two answers of Read of the bytes of %v share memory", cut(was))
		}
	}
	for n := 2; n <= maxSlots; n += 2 {
		l, _ := New(n)
		scribble(l)
		if again, _ := New(n); !slices.Equal(again, make([]api.Slot, n)) {
			t.Errorf("two answers of New(%d) share memory", n)
		}
	}
}

// TestAnswersFromOneTable: two tables that come from one are apart, also where that one had spare room of the call's own making.
func TestAnswersFromOneTable(t *testing.T) {
	for n := 2; n <= maxSlots; n += 2 {
		l, _ := New(n)
		for k := range n - 1 {
			l, _ = take(t, l, api.Slot{At: k, Len: 1})
			a, _ := take(t, l, api.Slot{At: 100, Len: 1})
			b, _ := take(t, l, api.Slot{At: 200, Len: 2})
			c := freed(t, l, k)
			if a[k+1].At != 100 || b[k+1].At != 200 || l[k+1].Live || c[k].Live || !l[k].Live || !a[k].Live {
				t.Fatalf("%d slots, %d taken: %v, %v, %v, %v", n, k+1, cut(l), cut(a), cut(b), cut(c))
			}
		}
	}
}

// P8.7

// keeper knows what was taken and freed, without a table.
type keeper struct {
	l    []api.Slot
	held []api.Handle
	gone map[api.Handle]int
}

func (m *keeper) take(t *testing.T, s api.Slot) {
	t.Helper()
	l, h, e := Take(m.l, s)
	if e == api.ErrTable && len(opens(m.l)) == 0 {
		return
	}
	if _, was := m.gone[h]; e != api.OK || was || slices.Contains(m.held, h) {
		t.Fatalf("Take(%v) = %v, %v, which was freed or is held", cut(m.l), h, e)
	}
	m.l, m.held = l, append(m.held, h)
}

func (m *keeper) free(t *testing.T, i int) {
	t.Helper()
	h := m.held[i]
	k, is := Find(m.l, h)
	if !is || k != h.Index {
		t.Fatalf("%v is held, but not found: %d, %v", h, k, is)
	}
	m.l = freed(t, m.l, k)
	m.held = slices.Delete(m.held, i, i+1)
	m.gone[h]++
}

// look asks for all handles there have been.
func (m *keeper) look(t *testing.T) {
	t.Helper()
	for _, h := range m.held {
		if k, is := Find(m.l, h); k != h.Index || !is {
			t.Fatalf("%v is held, but not found: %d, %v", h, k, is)
		}
	}
	for h := range m.gone {
		if k, is := Find(m.l, h); k != 0 || is {
			t.Fatalf("%v was freed, but is found: %d", h, k)
		}
	}
	if !Right(m.l) {
		t.Fatalf("%v is not right", cut(m.l))
	}
}

func TestFreedHandlesAreFoundNoMore(t *testing.T) {
	roll := dice(2)
	for run := range 40 {
		m := &keeper{l: rollTable(roll), gone: map[api.Handle]int{}}
		for k, s := range m.l {
			// No slot is live at first that no handle of the run names; some are near the end of their generations.
			m.l[k] = free(max(0, min(s.Gen, lastGen-roll(4)*run)))
		}
		for step := range 600 {
			if len(m.held) > 0 && roll(2) == 0 {
				m.free(t, roll(len(m.held)))
			} else {
				m.take(t, api.Slot{Two: roll(2) == 0, At: roll(lastAt + 1), Len: 1 + roll(lastLen)})
			}
			if step%20 == 0 {
				// What is read of a table's bytes goes on like it.
				m.l, _ = Read(bytesOf(t, m.l))
				m.look(t)
			}
		}
		m.look(t)
	}
}

// TestOneSlotThroughAllGens: each handle comes once, and with the last one the slot is spent.
func TestOneSlotThroughAllGens(t *testing.T) {
	l := []api.Slot{live(0, 0, 1), {}}
	for gen := range lastGen {
		var h api.Handle
		l, h = take(t, l, api.Slot{At: gen % lastAt, Len: 1 + gen%lastLen})
		if h != (api.Handle{Index: 1, Gen: gen}) {
			t.Fatalf("Take %d: %v", gen, h)
		}
		if gen > 0 {
			if _, is := Find(l, api.Handle{Index: 1, Gen: gen - 1}); is {
				t.Fatalf("Gen %d is found behind Gen %d", gen-1, gen)
			}
		}
		l = freed(t, l, 1)
	}
	if !slices.Equal(l, []api.Slot{live(0, 0, 1), free(lastGen)}) {
		t.Errorf("at the end: %v", l)
	}
	takeRefused(t, l, api.Slot{Len: 1}, api.ErrTable)
	for gen := range lastGen + 1 {
		if k, is := Find(l, api.Handle{Index: 1, Gen: gen}); k != 0 || is {
			t.Fatalf("Gen %d is found", gen)
		}
	}
}

// TestTablesAreSpentInTheEnd: slots near their last generation serve till none is left.
func TestTablesAreSpentInTheEnd(t *testing.T) {
	for n := 2; n <= maxSlots; n += 2 {
		m := &keeper{l: filled(n, free(lastGen-3)), gone: map[api.Handle]int{}}
		for range 3 * n {
			m.take(t, api.Slot{Len: 1})
			m.free(t, 0)
		}
		m.look(t)
		if len(m.gone) != 3*n || !slices.Equal(m.l, filled(n, free(lastGen))) {
			t.Errorf("%d slots: %d handles, then %v", n, len(m.gone), cut(m.l))
		}
		takeRefused(t, m.l, api.Slot{Len: 1}, api.ErrTable)
	}
}

// P8.8

func TestWrittenIsRead(t *testing.T) {
	roll := dice(3)
	for range 3000 {
		l := rollTable(roll)
		b := bytesOf(t, l)
		if back, is := Read(b); !slices.Equal(back, l) || !is || !bytes.Equal(b, written(l)) {
			t.Fatalf("Read of the bytes of %v = %v, %v", cut(l), cut(back), is)
		}
	}
}

// TestReadIsWritten: of bytes of all kinds, many of them near to a table's, what is read is written as it was.
func TestReadIsWritten(t *testing.T) {
	roll := dice(4)
	good := 0
	for range 20000 {
		b := written(rollTable(roll))
		for range roll(3) {
			at := roll(len(b)/8)*8 + roll(3)
			b[at] = byte(roll(256))
		}
		if roll(10) == 0 {
			b = b[:roll(len(b)+1)]
		}
		if !sameAsTold(t, b) {
			continue
		}
		good++
		l, _ := Read(b)
		if back, e := Bytes(l); e != api.OK || !bytes.Equal(back, b) {
			t.Fatalf("Bytes of what was read = %v, %v; want %v", back, e, b)
		}
	}
	if good < 1000 || good > 19000 {
		t.Errorf("%d of the bytes were tables'", good)
	}
}

func TestNoTwoTablesHaveTheSameBytes(t *testing.T) {
	seen := map[string][]api.Slot{}
	for _, l := range append(rows(2, kinds()), rows(4, few())...) {
		b := string(bytesOf(t, l))
		if other, is := seen[b]; is {
			t.Errorf("%v and %v have the same bytes", l, other)
		}
		seen[b] = l
	}
}

// W2: the same each time, whatever was asked between.
func TestSameEachTime(t *testing.T) {
	for range 3 {
		for _, l := range append(tables(), wrongTables()...) {
			is := isRight(l)
			b, e := Bytes(l)
			if Right(l) != is || (e == api.OK) != is || is && !bytes.Equal(b, written(l)) || !slices.Equal(Chain(l), opens(l)) {
				t.Fatalf("%v: Right = %v, Bytes = %v, Chain = %v", cut(l), Right(l), e, Chain(l))
			}
		}
	}
}

// W5: a table that is nil and one that is empty are the same, and so are bytes.
func TestOfNone(t *testing.T) {
	for _, l := range [][]api.Slot{nil, {}, filled(4, api.Slot{})[:0]} {
		sameOpens(t, l)
		takeRefused(t, l, api.Slot{Len: 1}, api.ErrArg)
		freeRefused(t, l, 0)
		b, e := Bytes(l)
		if k, is := Find(l, api.Handle{}); Right(l) || len(b) != 0 || e != api.ErrArg || k != 0 || is {
			t.Errorf("%#v: Right = %v, Bytes = %v, %v, Find = %d, %v", l, Right(l), b, e, k, is)
		}
	}
}
