package roots

import (
	"math"
	"slices"
	"strings"
	"testing"
	"unicode/utf8"

	"joist/api"
)

// The limits, written out: the tests must not lean on what they hold the package against.
const (
	maxRoots  = 8
	lastName  = 16
	lastIndex = 31
	lastGen   = 65535
	perRoot   = 32 // bytes
)

// dice are numbers without an order that anybody sees, but the same each time.
func dice(seed uint32) func(n int) int {
	return func(n int) int {
		seed = seed*1664525 + 1013904223
		return int(seed>>8) % n
	}
}

func to(index, gen int) api.Handle { return api.Handle{Index: index, Gen: gen} }

func root(name string, index, gen int) api.Root {
	return api.Root{Name: name, To: to(index, gen)}
}

// goodNames are names: short ones, those of MaxName bytes, letters of more than one byte, some that are nearly alike.
func goodNames() []string {
	return []string{
		"a", "A", "b", "0", "!", "~", "é", "e\u0301", "\u00a1", "€", "\U0001d11e", "\U0010ffff", "\ufffc", "\ufffe",
		"ab", "a-1", "aa", "root", "Root", "ROOT",
		strings.Repeat("x", 15), strings.Repeat("x", 16), strings.Repeat("é", 8), strings.Repeat("\U0001d11e", 4), "a" + strings.Repeat("€", 5), "abcdefghijklmnop",
	}
}

// badNames are texts that are no names; the empty one is the first of them.
func badNames() []string {
	return []string{
		"", " ", "a b", "a ", " a", "\x00", "a\x00", "a\x00b", "\x00a", "\t", "\n", "\x1f", "\x7f", "\u0080", "\u009f", "\u00a0", "a\u00a0", "\ufffd", "a\ufffd",
		"\xff", "a\xff", "\xc3", "é\xc3", "\xc0\x80", "\xed\xa0\x80", "\xf4\x90\x80\x80",
		strings.Repeat("x", 17), strings.Repeat("é", 8) + "a", "a" + strings.Repeat("é", 8), strings.Repeat("€", 6), strings.Repeat("\U0001d11e", 4) + "a", strings.Repeat("a", 1000), strings.Repeat("\x00", 16),
	}
}

// goodHandles stand at the edges of those that are right.
func goodHandles() []api.Handle {
	return []api.Handle{{}, to(0, 1), to(1, 0), to(1, 2), to(0, lastGen), to(lastIndex, 0), to(lastIndex, lastGen), to(lastIndex-1, lastGen-1), to(17, 4660)}
}

func badHandles() []api.Handle {
	return []api.Handle{
		to(-1, 0), to(-1, -1), to(0, -1), to(lastIndex+1, 0), to(lastIndex+1, lastGen), to(0, lastGen+1), to(lastIndex, lastGen+1), to(lastIndex, -1), to(-1, lastGen),
		to(lastIndex+1, lastGen+1), to(math.MinInt, 0), to(0, math.MinInt), to(math.MaxInt, 0), to(0, math.MaxInt), to(1<<32, 0), to(0, 1<<32), to(1, -65536), to(-1, 65536),
	}
}

// isName is the definition of chapter 6, letter by letter.
func isName(s string) bool {
	if len(s) < 1 || len(s) > lastName || !utf8.ValidString(s) {
		return false
	}
	return !strings.ContainsFunc(s, func(r rune) bool { return r <= 32 || 127 <= r && r <= 160 || r == 0xfffd })
}

// isHandle is that of chapter 7.
func isHandle(h api.Handle) bool {
	return 0 <= h.Index && h.Index <= lastIndex && 0 <= h.Gen && h.Gen <= lastGen
}

// isRight is this chapter's, with the names counted.
func isRight(l []api.Root) bool {
	if len(l) < 2 || len(l) > maxRoots || len(l)&1 == 1 {
		return false
	}
	seen := map[string]int{}
	for _, r := range l {
		if r == (api.Root{}) {
			continue
		}
		seen[r.Name]++
		if !isName(r.Name) || !isHandle(r.To) || seen[r.Name] > 1 {
			return false
		}
	}
	return true
}

// oddRoots are all roots of some names and handles: those that may be, and those that may not.
func oddRoots() []api.Root {
	var l []api.Root
	for _, name := range append(goodNames(), badNames()...) {
		for _, h := range append(goodHandles(), badHandles()...) {
			l = append(l, api.Root{Name: name, To: h})
		}
	}
	return l
}

// full are n roots with names of their own.
func full(n int) []api.Root {
	l := make([]api.Root, n)
	for k := range l {
		l[k] = root("n"+string(rune('a'+k%26))+strings.Repeat("+", k/26), (7*k+1)%(lastIndex+1), (1000*k+3)%(lastGen+1))
	}
	return l
}

// bare are n roots without names.
func bare(n int) []api.Root { return make([]api.Root, n) }

// masked are n roots with names where the bits of m are 1.
func masked(n, m int) []api.Root {
	l := full(n)
	for k := range l {
		if m>>k&1 == 0 {
			l[k] = api.Root{}
		}
	}
	return l
}

// rollRoots are roots that are right.
func rollRoots(roll func(int) int) []api.Root {
	l := bare(2 + 2*roll(4))
	some := goodNames()
	for k := range l {
		at := roll(len(some))
		if roll(3) > 0 {
			l[k] = root(some[at], roll(lastIndex+1), roll(lastGen+1))
		}
		some = slices.Delete(some, at, at+1)
	}
	return l
}

// rightRoots are right: all choices of who has a name, the edges of names and handles at each place, mixed ones.
func rightRoots() [][]api.Root {
	var l [][]api.Root
	for n := 2; n <= maxRoots; n += 2 {
		for m := range 1 << n {
			l = append(l, masked(n, m))
		}
	}
	for i, name := range goodNames() {
		for j, h := range goodHandles() {
			few, many := bare(2), full(maxRoots)
			few[(i+j)%2], many[(i+j)%maxRoots] = api.Root{Name: name, To: h}, api.Root{Name: name, To: h}
			l = append(l, few, many)
		}
	}
	roll := dice(1)
	for range 300 {
		l = append(l, rollRoots(roll))
	}
	return l
}

// wrongRoots are not right: wrong numbers of them, one that may not be, at the front, within and at the end, two of one name.
func wrongRoots() [][]api.Root {
	l := [][]api.Root{nil, {}}
	for _, n := range []int{1, 3, 5, 7, 9, 10, 11, 12, 16, 32, 1000} {
		l = append(l, bare(n), full(n), append(bare(n-1), root("a", 1, 2)))
	}
	for _, n := range []int{2, 4, maxRoots} {
		for _, at := range []int{0, n / 2, n - 1} {
			for _, r := range badRoots() {
				few, many := bare(n), full(n)
				few[at], many[at] = r, r
				l = append(l, few, many)
			}
		}
	}
	return append(l, twins()...)
}

// badRoots may not be, whatever the others are.
func badRoots() []api.Root {
	l := []api.Root{root("", 0, 1), root("", 1, 0), root("", lastIndex, lastGen), root("", -1, 0), root("", 0, -1)}
	for _, name := range badNames()[1:] {
		l = append(l, root(name, 0, 0), root(name, 1, 2))
	}
	for _, h := range badHandles() {
		l = append(l, api.Root{Name: "a", To: h}, api.Root{To: h})
	}
	return append(l, root("a b", -1, 0))
}

// twins have one name twice, at each two places, with one handle or with two.
func twins() [][]api.Root {
	var l [][]api.Root
	for n := 2; n <= maxRoots; n += 2 {
		for i := range n {
			for j := range i {
				few, many := bare(n), full(n)
				few[i], few[j] = root("a", 1, 2), root("a", 1, 2)
				many[i].Name = many[j].Name
				l = append(l, few, many)
			}
		}
	}
	return l
}

func get(t *testing.T, l []api.Root, name string) api.Handle {
	t.Helper()
	h, e := Get(l, name)
	if e != api.OK {
		t.Fatalf("Get(%v, %q) tells %v", l, name, e)
	}
	return h
}

func set(t *testing.T, l []api.Root, name string, h api.Handle) []api.Root {
	t.Helper()
	out, e := Set(l, name, h)
	if e != api.OK {
		t.Fatalf("Set(%v, %q, %v) tells %v", l, name, h, e)
	}
	return out
}

func drop(t *testing.T, l []api.Root, name string) []api.Root {
	t.Helper()
	out, e := Drop(l, name)
	if e != api.OK {
		t.Fatalf("Drop(%v, %q) tells %v", l, name, e)
	}
	return out
}

// getRefused: W3: a zero handle beside the error; so with the others.
func getRefused(t *testing.T, l []api.Root, name string, want api.Errno) {
	t.Helper()
	if h, e := Get(l, name); h != (api.Handle{}) || e != want {
		t.Errorf("Get(%d: %v, %q) = %v, %v; want zero, %v", len(l), l, name, h, e, want)
	}
}

func setRefused(t *testing.T, l []api.Root, name string, h api.Handle, want api.Errno) {
	t.Helper()
	if out, e := Set(l, name, h); len(out) != 0 || e != want {
		t.Errorf("Set(%d: %v, %q, %v) = %v, %v; want none, %v", len(l), l, name, h, out, e, want)
	}
}

func dropRefused(t *testing.T, l []api.Root, name string, want api.Errno) {
	t.Helper()
	if out, e := Drop(l, name); len(out) != 0 || e != want {
		t.Errorf("Drop(%d: %v, %q) = %v, %v; want none, %v", len(l), l, name, out, e, want)
	}
}

// P9.1

func TestLimits(t *testing.T) {
	if api.MaxRoots != maxRoots || api.MaxName != lastName || api.MaxSlots != lastIndex+1 || api.MaxGen != lastGen {
		t.Error("the limits are not the document's")
	}
	if api.OK != 0 || api.ErrArg != 1 || api.ErrForm != 3 || api.ErrTable != 9 || api.ErrName != 11 {
		t.Error("the errors are not the document's")
	}
}

func TestNew(t *testing.T) {
	for _, n := range []int{2, 4, 6, 8} {
		l, e := New(n)
		if e != api.OK || len(l) != n || slices.ContainsFunc(l, func(r api.Root) bool { return r != (api.Root{}) }) {
			t.Errorf("New(%d) = %v, %v", n, l, e)
		}
		if !Right(l) {
			t.Errorf("New(%d) is not right", n)
		}
	}
}

func TestNewRefuses(t *testing.T) {
	for _, n := range []int{0, 1, 3, 5, 7, 9, 10, 11, 12, 16, 32, 1 << 32, 1<<32 + 2, 1 << 62, math.MaxInt - 1, math.MaxInt, -1, -2, -4, -8, math.MinInt, math.MinInt + 2} {
		if l, e := New(n); len(l) != 0 || e != api.ErrArg {
			t.Errorf("New(%d) = %v, %v; want none, ErrArg", n, l, e)
		}
	}
}

func TestRightOfRightOnes(t *testing.T) {
	for _, l := range rightRoots() {
		if !Right(l) {
			t.Errorf("Right(%v) = false", l)
		}
	}
}

func TestRightOfWrongOnes(t *testing.T) {
	for _, l := range wrongRoots() {
		if Right(l) {
			t.Errorf("Right(%d: %v) = true", len(l), l)
		}
	}
}

func TestRightOfNumbers(t *testing.T) {
	for n := range 40 {
		want := n == 2 || n == 4 || n == 6 || n == 8
		// Spare room does not count.
		for _, l := range [][]api.Root{bare(n), full(n), full(60)[:n], bare(60)[:n]} {
			if Right(l) != want {
				t.Errorf("Right of %d roots, %d with spare room, = %v", n, cap(l), !want)
			}
		}
	}
}

// TestRightOfEachRoot: one root that may not be is enough, wherever it stands.
func TestRightOfEachRoot(t *testing.T) {
	for _, r := range oddRoots() {
		for n := 2; n <= maxRoots; n += 2 {
			for k := range n {
				few, many := bare(n), full(n)
				few[k], many[k] = r, r
				want := r == (api.Root{}) || isName(r.Name) && isHandle(r.To)
				if Right(few) != want || Right(many) != want {
					t.Fatalf("root %d of %d is %v: Right = %v, %v", k, n, r, Right(few), Right(many))
				}
			}
		}
	}
}

// TestRightOfZeroTo: a To that is zero is right beside a name; another one is not right beside none.
func TestRightOfZeroTo(t *testing.T) {
	for n := 2; n <= maxRoots; n += 2 {
		for k := range n {
			l := bare(n)
			l[k].Name = "a"
			if !Right(l) {
				t.Errorf("a zero To beside a name, %d of %d: not right", k, n)
			}
			for _, h := range append(goodHandles()[1:], badHandles()...) {
				l[k] = api.Root{To: h}
				if Right(l) {
					t.Errorf("%v beside no name, %d of %d: right", h, k, n)
				}
			}
		}
	}
}

// TestRightOfTwoNames: of all pairs of names, each is right but one with itself; two without names are right.
func TestRightOfTwoNames(t *testing.T) {
	for i, a := range goodNames() {
		for j, b := range goodNames() {
			if l := []api.Root{root(a, 1, 2), {}, {}, root(b, 3, 4)}; Right(l) != (i != j) {
				t.Errorf("Right(%v) = %v", l, Right(l))
			}
			if l := []api.Root{root(a, 5, 6), root(b, 5, 6)}; Right(l) != (i != j) {
				t.Errorf("Right(%v) = %v", l, Right(l))
			}
		}
	}
}

func TestRightOfRolledOnes(t *testing.T) {
	roll := dice(2)
	some := append(oddRoots(), bare(200)...)
	good := 0
	for range 20000 {
		l := rollRoots(roll)
		for range roll(3) {
			l[roll(len(l))] = some[roll(len(some))]
		}
		if Right(l) != isRight(l) {
			t.Fatalf("Right(%v) = %v", l, Right(l))
		}
		if isRight(l) {
			good++
		}
	}
	if good < 1000 || good > 19000 {
		t.Errorf("%d of the roots were right", good)
	}
}

// P9.2: the errors of all

// TestRootsThatAreNotRight: ErrArg, whatever the name and the handle are.
func TestRootsThatAreNotRight(t *testing.T) {
	for _, l := range wrongRoots() {
		for _, name := range []string{"a", "na", "nb", "zz", "é", "", "a b", "a\x00", strings.Repeat("x", 17)} {
			getRefused(t, l, name, api.ErrArg)
			dropRefused(t, l, name, api.ErrArg)
			for _, h := range []api.Handle{{}, to(1, 2), to(-1, 0), to(0, lastGen+1)} {
				setRefused(t, l, name, h, api.ErrArg)
			}
		}
	}
}

// TestTextsThatAreNoNames: ErrForm, also where all have names, where a root has none, and beside a handle that is not right.
func TestTextsThatAreNoNames(t *testing.T) {
	for _, l := range [][]api.Root{bare(2), bare(8), full(2), full(8), masked(4, 5), {root("a", 1, 2), root("b", 0, 0)}} {
		for _, name := range badNames() {
			getRefused(t, l, name, api.ErrForm)
			dropRefused(t, l, name, api.ErrForm)
			for _, h := range append(goodHandles(), badHandles()...) {
				setRefused(t, l, name, h, api.ErrForm)
			}
		}
	}
}

// P9.2: Get

func TestExamples(t *testing.T) {
	l, _ := New(2)
	l = set(t, l, "a", to(1, 2))
	if !slices.Equal(l, []api.Root{root("a", 1, 2), {}}) || get(t, l, "a") != to(1, 2) {
		t.Errorf("Set of a: %v", l)
	}
	getRefused(t, l, "b", api.ErrName)
	l = set(t, l, "b", to(3, 4))
	setRefused(t, l, "c", to(5, 6), api.ErrTable)
}

func TestGet(t *testing.T) {
	for _, l := range rightRoots() {
		for _, r := range l {
			if r.Name == "" {
				continue
			}
			if h := get(t, l, r.Name); h != r.To {
				t.Errorf("Get(%v, %q) = %v", l, r.Name, h)
			}
		}
	}
}

// TestNoSuchName: names that are near to a root's own are others.
func TestNoSuchName(t *testing.T) {
	for _, l := range rightRoots() {
		for _, name := range append(goodNames(), "na", "nb", "nh", "n", "naa", "NA") {
			if slices.ContainsFunc(l, func(r api.Root) bool { return r.Name == name }) {
				continue
			}
			getRefused(t, l, name, api.ErrName)
			dropRefused(t, l, name, api.ErrName)
		}
	}
}

// P9.2: Set

// TestSetOfNames: the root of that name has the handle, or else the first one without a name has both.
func TestSetOfNames(t *testing.T) {
	for _, l := range rightRoots() {
		for i, name := range append(goodNames(), "na", "nb", "nd", "nh") {
			h := goodHandles()[i%len(goodHandles())]
			k := slices.IndexFunc(l, func(r api.Root) bool { return r.Name == name })
			if k < 0 {
				k = slices.Index(l, api.Root{})
			}
			if k < 0 {
				setRefused(t, l, name, h, api.ErrTable)
				continue
			}
			want := slices.Clone(l)
			want[k] = api.Root{Name: name, To: h}
			if got := set(t, l, name, h); !slices.Equal(got, want) || !Right(got) {
				t.Fatalf("Set(%v, %q, %v) = %v; want %v", l, name, h, got, want)
			}
		}
	}
}

// TestSetOfANameBehindRoom: a root that has the name keeps its place, also where one ahead of it has none.
func TestSetOfANameBehindRoom(t *testing.T) {
	for n := 2; n <= maxRoots; n += 2 {
		for k := range n {
			l := bare(n)
			l[k] = root("a", 1, 2)
			want := bare(n)
			want[k] = root("a", 3, 4)
			if got := set(t, l, "a", to(3, 4)); !slices.Equal(got, want) {
				t.Errorf("Set over %v = %v", l, got)
			}
		}
	}
}

func TestSetBetweenTwo(t *testing.T) {
	l := []api.Root{root("a", 1, 2), {}, root("c", 3, 4), {}}
	want := []api.Root{root("a", 1, 2), root("b", 5, 6), root("c", 3, 4), {}}
	if got := set(t, l, "b", to(5, 6)); !slices.Equal(got, want) {
		t.Errorf("Set = %v", got)
	}
}

func TestSetOfEachHandle(t *testing.T) {
	for _, l := range [][]api.Root{bare(2), full(8), masked(4, 2), {root("na", 9, 9), {}}} {
		for _, name := range []string{"na", "nb"} {
			k := slices.IndexFunc(l, func(r api.Root) bool { return r.Name == name })
			room := slices.Contains(l, api.Root{})
			for _, h := range goodHandles() {
				if k < 0 && !room {
					continue
				}
				if got := get(t, set(t, l, name, h), name); got != h {
					t.Errorf("Set(%v, %q, %v): %v", l, name, h, got)
				}
			}
			for _, h := range badHandles() {
				setRefused(t, l, name, h, api.ErrArg)
			}
		}
	}
}

// TestSetTellsTheFirstError: a handle that is not right ahead of no room, and also where the name is there.
func TestSetTellsTheFirstError(t *testing.T) {
	for n := 2; n <= maxRoots; n += 2 {
		for _, h := range badHandles() {
			setRefused(t, full(n), "new", h, api.ErrArg)
			setRefused(t, full(n), "na", h, api.ErrArg)
			setRefused(t, bare(n), "new", h, api.ErrArg)
		}
		for _, h := range goodHandles() {
			setRefused(t, full(n), "new", h, api.ErrTable)
			set(t, full(n), "nb", h)
		}
	}
}

func TestSetTillAllHaveNames(t *testing.T) {
	for n := 2; n <= maxRoots; n += 2 {
		l, _ := New(n)
		for k, r := range full(n) {
			l = set(t, l, r.Name, r.To)
			if !slices.Equal(l, append(full(k+1), bare(n-k-1)...)) {
				t.Fatalf("%d roots, Set %d: %v", n, k, l)
			}
		}
		setRefused(t, l, "new", to(0, 0), api.ErrTable)
		for _, r := range full(n) {
			l = set(t, l, r.Name, to(lastIndex, r.To.Gen))
		}
		setRefused(t, l, "new", to(0, 0), api.ErrTable)
	}
}

// P9.2: Drop

func TestDrop(t *testing.T) {
	for _, l := range rightRoots() {
		for k, r := range l {
			if r.Name == "" {
				continue
			}
			want := slices.Clone(l)
			want[k] = api.Root{}
			got := drop(t, l, r.Name)
			if !slices.Equal(got, want) || !Right(got) {
				t.Fatalf("Drop(%v, %q) = %v; want %v", l, r.Name, got, want)
			}
			getRefused(t, got, r.Name, api.ErrName)
			dropRefused(t, got, r.Name, api.ErrName)
		}
	}
}

// TestDroppedRootsServeAgain: the first one without a name is taken, wherever it lies.
func TestDroppedRootsServeAgain(t *testing.T) {
	for n := 2; n <= maxRoots; n += 2 {
		for i := range n {
			for j := range n {
				if i == j {
					continue
				}
				l := full(n)
				names := []string{l[i].Name, l[j].Name}
				l = drop(t, drop(t, l, names[0]), names[1])
				l = set(t, set(t, l, "new", to(1, 1)), "newer", to(2, 2))
				if l[min(i, j)] != root("new", 1, 1) || l[max(i, j)] != root("newer", 2, 2) {
					t.Errorf("%d roots, %d and %d dropped: %v", n, i, j, l)
				}
				setRefused(t, l, names[0], to(3, 3), api.ErrTable)
			}
		}
	}
}

func TestDropTillNoneHasAName(t *testing.T) {
	for n := 2; n <= maxRoots; n += 2 {
		l := full(n)
		for k := n - 1; k >= 0; k-- {
			l = drop(t, l, full(n)[k].Name)
		}
		if !slices.Equal(l, bare(n)) {
			t.Errorf("%d roots, all dropped: %v", n, l)
		}
		dropRefused(t, l, "na", api.ErrName)
	}
}

// W2: the same each time, whatever was asked between.
func TestSameEachTime(t *testing.T) {
	for range 3 {
		for _, l := range append(rightRoots(), wrongRoots()...) {
			is := isRight(l)
			_, e := Bytes(l)
			_, f := Set(l, "na", to(1, 2))
			if Right(l) != is || (e == api.OK) != is || (f == api.ErrArg) == is {
				t.Fatalf("%v: Right = %v, Bytes = %v, Set = %v", l, Right(l), e, f)
			}
		}
	}
}

// W5: roots that are nil and those that are empty are the same.
func TestOfNone(t *testing.T) {
	for _, l := range [][]api.Root{nil, {}, full(4)[:0]} {
		getRefused(t, l, "na", api.ErrArg)
		setRefused(t, l, "na", to(0, 0), api.ErrArg)
		dropRefused(t, l, "na", api.ErrArg)
		if b, e := Bytes(l); Right(l) || len(b) != 0 || e != api.ErrArg {
			t.Errorf("%#v: Right = %v, Bytes = %v, %v", l, Right(l), b, e)
		}
	}
}
