package model

import (
	"math"
	"strings"
	"testing"
	"unicode/utf8"

	"joist/api"
)

// The limits, written out: the tests must not lean on what they hold the package against.
const (
	mostSlots = 32
	mostRoots = 8
	lastIndex = 31
	lastGen   = 65535
	lastLen   = 2048
	lastName  = 16
)

// far are numbers past all that may be, or nearly all. Those past 2^32 have one that may be in their lower half.
func far() []int {
	return []int{
		math.MinInt, math.MinInt + 1, math.MinInt + 4, math.MinInt / 2, -1 << 32, -1<<32 + 1, -1 << 31, -65536, -2048, -32, -4, -3, -2, -1,
		65536, 65537, 1 << 31, 1 << 32, 1<<32 + 1, 1<<32 + 2, 1<<32 + 4, 1 << 62, 1<<62 + 1, math.MaxInt - 2048, math.MaxInt - 4, math.MaxInt - 1, math.MaxInt,
	}
}

// dice are numbers without an order that anybody sees, but the same each time.
func dice(seed uint32) func(n int) int {
	return func(n int) int {
		seed = seed*1664525 + 1013904223
		return int(seed>>8) % n
	}
}

func to(index, gen int) api.Handle { return api.Handle{Index: index, Gen: gen} }

func root(name string, index, gen int) api.Root {
	return api.Root{Name: name, To: to(index, gen)}
}

// filling are n bytes, of each slot others, none of them 0.
func filling(k, n int) []byte {
	b := make([]byte, n)
	for i := range b {
		b[i] = byte(1 + (37*k+11*i+i/200)%255)
	}
	return b
}

// bare is a heap of n slots and r roots with nothing in it.
func bare(n, r int) api.Abstract {
	return api.Abstract{Gens: make([]int, n), Data: make([][]byte, n), Roots: make([]api.Root, r)}
}

// withLens is a heap of so many bytes in each slot; one of 0 has no object.
func withLens(r int, lens ...int) api.Abstract {
	a := bare(len(lens), r)
	for k, n := range lens {
		a.Gens[k], a.Data[k] = 5*k, filling(k, n)
	}
	return a
}

// own is a heap in memory of its own, made by hand.
func own(a api.Abstract) api.Abstract {
	data := make([][]byte, len(a.Data))
	for k, b := range a.Data {
		data[k] = append([]byte(nil), b...)
	}
	return api.Abstract{Gens: append([]int(nil), a.Gens...), Data: data, Roots: append([]api.Root(nil), a.Roots...)}
}

// alike holds heaps against each other part by part; empty lists are alike.
func alike(a, b api.Abstract) bool {
	if len(a.Gens) != len(b.Gens) || len(a.Data) != len(b.Data) || len(a.Roots) != len(b.Roots) {
		return false
	}
	for k := range a.Gens {
		if a.Gens[k] != b.Gens[k] {
			return false
		}
	}
	for k := range a.Data {
		if string(a.Data[k]) != string(b.Data[k]) {
			return false
		}
	}
	for k := range a.Roots {
		if a.Roots[k] != b.Roots[k] {
			return false
		}
	}
	return true
}

// few has slots of each kind: live ones, one of MaxGen too, one that is open, a spent one.
func few() api.Abstract {
	a := withLens(4, 5, 0, 1, 0, 300, 40)
	a.Gens = []int{0, 9, lastGen, lastGen, 17, lastGen - 1}
	a.Roots = []api.Root{root("a", 0, 0), {}, root("é-"+strings.Repeat("x", 13), 2, lastGen), root("gone", 1, 8)}
	return a
}

// most has all of everything: as many slots and roots as may be, each slot live, and as long as may be.
func most() api.Abstract {
	a := bare(mostSlots, mostRoots)
	for k := range a.Gens {
		a.Gens[k], a.Data[k] = lastGen-k, filling(k, lastLen)
	}
	for k := range a.Roots {
		a.Roots[k] = root(strings.Repeat(string(rune('a'+k)), 2*k+1), lastIndex-k, lastGen)
	}
	return a
}

// spent has no open slot, and no live one.
func spent(n int) api.Abstract {
	a := bare(n, 2)
	for k := range a.Gens {
		a.Gens[k] = lastGen
	}
	return a
}

// oneOpen has a single open slot, the one at k.
func oneOpen(n, k int) api.Abstract {
	a := withLens(2, make([]int, n)...)
	for i := range n {
		if i%2 == 0 {
			a.Data[i] = filling(i, 1+i)
		} else {
			a.Gens[i] = lastGen
		}
	}
	a.Gens[k], a.Data[k] = lastGen-1, nil
	return a
}

// rolled is a right heap without order.
func rolled(roll func(int) int) api.Abstract {
	a := bare(2+2*roll(16), 2+2*roll(4))
	lens := []int{0, 0, 0, 1, 2, 8, 63, 64, 100, 2047, 2048}
	gens := []int{0, 0, 1, 2, 300, lastGen - 1, lastGen}
	for k := range a.Gens {
		a.Gens[k], a.Data[k] = gens[roll(len(gens))], filling(roll(9), lens[roll(len(lens))])
	}
	for k := range a.Roots {
		if roll(3) > 0 {
			// A root's handle need not name anything.
			a.Roots[k] = root("r"+string(rune('0'+k)), roll(mostSlots), gens[roll(len(gens))])
		}
	}
	return a
}

func rightHeaps() []api.Abstract {
	l := []api.Abstract{
		few(), most(), bare(2, 2), bare(mostSlots, mostRoots), bare(4, 2), spent(2), spent(mostSlots),
		oneOpen(2, 0), oneOpen(2, 1), oneOpen(6, 3), oneOpen(mostSlots, 0), oneOpen(mostSlots, lastIndex),
		withLens(2, 1, lastLen), withLens(8, 0, 2, 0, 3), withLens(6, 4, 4, 4, 4), withLens(2, lastLen-1, 0),
	}
	roll := dice(1)
	for range 30 {
		l = append(l, rolled(roll))
	}
	return l
}

// turned is a heap with one thing other than in few.
func turned(turn func(a *api.Abstract)) api.Abstract {
	a := few()
	turn(&a)
	return a
}

// wrongSizes are heaps with too few or too many slots, with an odd number of them, with Gens and Data of unlike lengths.
func wrongSizes() []api.Abstract {
	l := []api.Abstract{
		{},
		{Roots: make([]api.Root, 2)},
		turned(func(a *api.Abstract) { a.Gens = nil }),
		turned(func(a *api.Abstract) { a.Data = nil }),
		turned(func(a *api.Abstract) { a.Gens, a.Data = nil, nil }),
		turned(func(a *api.Abstract) { a.Gens = a.Gens[:4] }),
		turned(func(a *api.Abstract) { a.Data = a.Data[:4] }),
		turned(func(a *api.Abstract) { a.Gens = append(a.Gens, 0) }),
		turned(func(a *api.Abstract) { a.Data = append(a.Data, nil) }),
		turned(func(a *api.Abstract) { a.Gens = append(a.Gens, 0, 0) }),
		turned(func(a *api.Abstract) { a.Data = append(a.Data, nil, nil) }),
	}
	for _, n := range []int{0, 1, 3, 5, 7, 31, 33, 34, 35, 64, 100} {
		l = append(l, bare(n, 2), withLens(2, make([]int, n)...), bare(2, n+n%2*mostRoots))
	}
	return l
}

// wrongParts are heaps with a Gen that may not be, Data that are too long, roots that are not right: at the front, within and at the end.
func wrongParts() []api.Abstract {
	var l []api.Abstract
	for _, k := range []int{0, 1, 3, 5} {
		for _, gen := range append(far(), -1, lastGen+1) {
			l = append(l, turned(func(a *api.Abstract) { a.Gens[k] = gen }))
		}
		for _, n := range []int{lastLen + 1, lastLen + 2, 2 * lastLen, 1 << 16, 1<<16 + 1} {
			l = append(l, turned(func(a *api.Abstract) { a.Data[k] = filling(k, n) }))
		}
	}
	for _, n := range []int{0, 1, 3, 5, 7, 9, 10, 12, 16} {
		l = append(l, turned(func(a *api.Abstract) { a.Roots = make([]api.Root, n) }))
	}
	for _, r := range []api.Root{
		root("", 0, 1), root("", 1, 0), root("a b", 0, 0), root(strings.Repeat("x", lastName+1), 0, 0), root("\xff", 0, 0), root("\ufffd", 0, 0),
		root("b", -1, 0), root("b", 0, -1), root("b", lastIndex+1, 0), root("b", 0, lastGen+1), root("b", math.MinInt, 0), root("b", 0, math.MaxInt),
	} {
		for k := range 4 {
			l = append(l, turned(func(a *api.Abstract) { a.Roots[k] = r }))
		}
	}
	return append(l,
		turned(func(a *api.Abstract) { a.Roots[1] = a.Roots[0] }),
		turned(func(a *api.Abstract) { a.Roots[3] = root("a", 1, 1) }))
}

func wrongHeaps() []api.Abstract { return append(wrongSizes(), wrongParts()...) }

// isName is the definition of chapter 6, letter by letter.
func isName(s string) bool {
	if len(s) < 1 || len(s) > lastName || !utf8.ValidString(s) {
		return false
	}
	return !strings.ContainsFunc(s, func(r rune) bool { return r <= 32 || 127 <= r && r <= 160 || r == 0xfffd })
}

// isRight is the definition of a right heap, by hand.
func isRight(a api.Abstract) bool {
	n, r := len(a.Gens), len(a.Roots)
	if n != len(a.Data) || n < 2 || n > mostSlots || n%2 != 0 || r < 2 || r > mostRoots || r%2 != 0 {
		return false
	}
	for k := range n {
		if a.Gens[k] < 0 || a.Gens[k] > lastGen || len(a.Data[k]) > lastLen {
			return false
		}
	}
	seen := map[string]int{}
	for _, one := range a.Roots {
		if one == (api.Root{}) {
			continue
		}
		seen[one.Name]++
		if seen[one.Name] > 1 || !isName(one.Name) ||
			one.To.Index < 0 || one.To.Index > lastIndex || one.To.Gen < 0 || one.To.Gen > lastGen {
			return false
		}
	}
	return true
}

// P20.1

func TestRight(t *testing.T) {
	for _, a := range rightHeaps() {
		if !isRight(a) || !Right(a) {
			t.Errorf("%+v: right by hand %v, Right %v", a, isRight(a), Right(a))
		}
	}
	for _, a := range wrongHeaps() {
		if isRight(a) != Right(a) {
			t.Errorf("%+v: right by hand %v, Right %v", a, isRight(a), Right(a))
		}
	}
}

func TestRightBySizes(t *testing.T) {
	for n := range 40 {
		for m := range 40 {
			for _, r := range []int{2, 3} {
				a := api.Abstract{Gens: make([]int, n), Data: make([][]byte, m), Roots: make([]api.Root, r)}
				if want := n == m && n >= 2 && n <= 32 && n%2 == 0 && r == 2; Right(a) != want {
					t.Errorf("%d Gens, %d Data, %d Roots: Right %v", n, m, r, Right(a))
				}
			}
		}
	}
	for r := range 20 {
		if want := r == 2 || r == 4 || r == 6 || r == 8; Right(bare(4, r)) != want {
			t.Errorf("%d Roots: Right %v", r, !want)
		}
	}
}

func TestRightAtEdges(t *testing.T) {
	for k := range 6 {
		for gen, want := range map[int]bool{-1: false, 0: true, 1: true, lastGen: true, lastGen + 1: false, 4 * lastGen: false} {
			a := few()
			a.Gens[k] = gen
			if Right(a) != want {
				t.Errorf("Gen %d of slot %d: Right %v", gen, k, !want)
			}
		}
		for n, want := range map[int]bool{0: true, 1: true, lastLen: true, lastLen + 1: false} {
			a := few()
			a.Data[k] = make([]byte, n)
			if Right(a) != want {
				t.Errorf("%d bytes of slot %d: Right %v", n, k, !want)
			}
		}
	}
}

// TestRightAsksNotWhomRootsName: a root may name a slot that is freed, or none of this heap.
func TestRightAsksNotWhomRootsName(t *testing.T) {
	for _, h := range []api.Handle{to(0, 0), to(0, 5), to(1, 9), to(3, lastGen), to(9, 1), to(lastIndex, lastGen)} {
		a := few()
		a.Roots[1] = api.Root{Name: "x", To: h}
		if !Right(a) {
			t.Errorf("a root to %v: not right", h)
		}
	}
}
