package model

import (
	"bytes"
	"math"
	"strings"
	"testing"

	"joist/api"
)

// P20.2: what is done to an object, and to roots

// TestResize: from each length of some to each.
func TestResize(t *testing.T) {
	lens := []int{1, 2, 3, 63, 64, 65, 500, lastLen - 1, lastLen}
	for _, was := range lens {
		for _, n := range lens {
			h := to(1, 5)
			want := make([]byte, n)
			copy(want, filling(1, was))
			play(t, withLens(2, 9, was), step{o: resize(h, n)}, step{o: read(h, 0, n), b: want}, step{o: read(h, 0, n+1), e: api.ErrArg})
		}
		for _, n := range append(far(), 0, -1, lastLen+1, lastLen+2, 4096) {
			play(t, withLens(2, 9, was), step{o: resize(to(1, 5), n), e: api.ErrArg}, step{o: resize(to(1, 4), n), e: api.ErrHandle})
		}
	}
}

// TestWhatWasCutDoesNotComeBack: bytes behind the end are 0 when an object is longer again.
func TestWhatWasCutDoesNotComeBack(t *testing.T) {
	h := to(0, 0)
	play(t, bare(2, 2),
		step{o: alloc(6), h: h}, step{o: write(h, 0, 1, 2, 3, 4, 5, 6)},
		step{o: resize(h, 2)}, step{o: resize(h, 6)}, step{o: read(h, 0, 6), b: []byte{1, 2, 0, 0, 0, 0}},
		step{o: write(h, 4, 9)}, step{o: free(h)},
		step{o: alloc(6), h: to(0, 1)}, step{o: read(to(0, 1), 0, 6), b: make([]byte, 6)})
}

// TestReadAndWriteEachPart: of short objects each Off with each number of bytes.
func TestReadAndWriteEachPart(t *testing.T) {
	for _, size := range []int{1, 2, 5, 9} {
		a := withLens(2, 3, size)
		h := to(1, 5)
		for off := -2; off <= size+2; off++ {
			for n := -2; n <= size+2; n++ {
				fits := off >= 0 && off <= size && n >= 0 && off+n <= size
				_, r, e := doAlso(t, a, read(h, off, n))
				if (e == api.OK) != fits || fits && !bytes.Equal(r.B, filling(1, size)[off:off+n]) {
					t.Errorf("read of %d from %d on of %d bytes: %v, %d", n, off, size, r.B, e)
				}
				if n < 0 {
					continue
				}
				b, _, e := doAlso(t, a, write(h, off, bytes.Repeat([]byte{255}, n)...))
				if (e == api.OK) != fits || fits && (bytes.Count(b.Data[1], []byte{255}) != n || len(b.Data[1]) != size) {
					t.Errorf("write of %d from %d on of %d bytes: %v, %d", n, off, size, b.Data, e)
				}
			}
		}
	}
}

// TestAtTheEndOfTheLongest: Off at the object's end, and right behind it; no bytes are fine at the end.
func TestAtTheEndOfTheLongest(t *testing.T) {
	h := to(0, lastGen)
	all := filling(0, lastLen)
	play(t, most(),
		step{o: read(h, 0, lastLen), b: all}, step{o: read(h, lastLen-1, 1), b: all[lastLen-1:]}, step{o: read(h, lastLen, 0)}, step{o: read(h, 0, 0)},
		step{o: read(h, lastLen, 1), e: api.ErrArg}, step{o: read(h, lastLen+1, 0), e: api.ErrArg}, step{o: read(h, 0, lastLen+1), e: api.ErrArg}, step{o: read(h, 1, lastLen), e: api.ErrArg},
		step{o: write(h, lastLen)}, step{o: write(h, 0)}, step{o: write(h, lastLen-1, 5)}, step{o: write(h, 0, make([]byte, lastLen)...)},
		step{o: write(h, lastLen, 1), e: api.ErrArg}, step{o: write(h, lastLen+1), e: api.ErrArg}, step{o: write(h, 0, make([]byte, lastLen+1)...), e: api.ErrArg},
		step{o: write(h, 1, make([]byte, lastLen)...), e: api.ErrArg}, step{o: read(h, 0, lastLen), b: make([]byte, lastLen)})
}

// TestSumsThatNoIntBears: what is asked for is past the object's end, though Off and N come to a small number.
func TestSumsThatNoIntBears(t *testing.T) {
	h := to(4, 17)
	for _, n := range []int{math.MaxInt, math.MaxInt - 1, math.MaxInt - 150, math.MaxInt - 298, math.MaxInt - 299, math.MaxInt - 300, 1 << 62} {
		for _, off := range []int{0, 1, 2, 150, 299, 300, math.MaxInt, 1 << 62, math.MinInt, math.MinInt + 1, math.MinInt + 150} {
			if off == 0 || off > 300 || off < 0 {
				play(t, few(), step{o: write(h, n, 1), e: api.ErrArg}, step{o: write(h, n), e: api.ErrArg})
			}
			play(t, few(), step{o: read(h, off, n), e: api.ErrArg}, step{o: read(h, n, off), e: api.ErrArg}, step{o: read(h, off, math.MinInt), e: api.ErrArg})
		}
	}
}

// TestGoodHandles: only a live slot's own Gen.
func TestGoodHandles(t *testing.T) {
	for _, a := range []api.Abstract{few(), most(), bare(2, 2), oneOpen(6, 2), spent(4)} {
		for k := -2; k <= mostSlots+1; k++ {
			for _, gen := range []int{-1, 0, 1, 5, 9, 10, 17, 18, lastGen - 31, lastGen - 1, lastGen, lastGen + 1, 1 << 16} {
				h := to(k, gen)
				good := k >= 0 && k < len(a.Gens) && a.Gens[k] == gen && len(a.Data[k]) > 0
				for _, o := range []api.Op{free(h), resize(h, 4), read(h, 0, 1), write(h, 0, 1), set("a", h)} {
					_, _, e := do(t, a, o)
					if (e == api.ErrHandle) == good {
						t.Errorf("%+v: %d", o, e)
					}
				}
			}
		}
	}
}

// TestFirstErrors: where several would do, the one that the chapter names first.
func TestFirstErrors(t *testing.T) {
	full, noHandle := withLens(2, 1, 1), to(3, 3)
	full.Roots = []api.Root{root("a", 0, 0), root("b", 0, 0)}
	play(t, full,
		step{o: alloc(0), e: api.ErrArg}, step{o: alloc(1), e: api.ErrTable},
		step{o: resize(noHandle, 0), e: api.ErrHandle}, step{o: read(noHandle, -1, -1), e: api.ErrHandle}, step{o: write(noHandle, 9, 9), e: api.ErrHandle},
		step{o: set("a b", noHandle), e: api.ErrForm}, step{o: set("", noHandle), e: api.ErrForm}, step{o: set("c", noHandle), e: api.ErrHandle},
		step{o: set("a", noHandle), e: api.ErrHandle}, step{o: set("c", to(0, 0)), e: api.ErrTable}, step{o: set("a b", to(0, 0)), e: api.ErrForm},
		step{o: set("a", to(1, 5))}, step{o: get("a"), h: to(1, 5)},
		step{o: get(""), e: api.ErrForm}, step{o: get("c"), e: api.ErrName}, step{o: drop("a b"), e: api.ErrForm}, step{o: drop("c"), e: api.ErrName})
}

func TestRoots(t *testing.T) {
	long, wide := strings.Repeat("n", lastName), strings.Repeat("é", 8)
	a := withLens(4, 3, 3, 0, 3)
	play(t, a,
		step{o: get("a"), e: api.ErrName}, step{o: drop("a"), e: api.ErrName},
		step{o: set("a", to(0, 0))}, step{o: set(long, to(1, 5))}, step{o: set(wide, to(3, 15))}, step{o: set("A", to(0, 0))},
		step{o: set("b", to(0, 0)), e: api.ErrTable}, step{o: set(long+"n", to(0, 0)), e: api.ErrForm}, step{o: get(long + "n"), e: api.ErrForm},
		step{o: get("a"), h: to(0, 0)}, step{o: get(long), h: to(1, 5)}, step{o: get(wide), h: to(3, 15)}, step{o: get("A"), h: to(0, 0)},
		step{o: drop(long)}, step{o: get(long), e: api.ErrName}, step{o: drop(long), e: api.ErrName},
		step{o: set("b", to(3, 15))}, step{o: get("b"), h: to(3, 15)}, step{o: set("b", to(0, 0))}, step{o: get("b"), h: to(0, 0)})
	b := play(t, a, step{o: set("a", to(0, 0))}, step{o: set("b", to(1, 5))}, step{o: drop("a")}, step{o: set("c", to(3, 15))})
	if want := []api.Root{root("c", 3, 15), root("b", 1, 5), {}, {}}; !alike(api.Abstract{Roots: b.Roots}, api.Abstract{Roots: want}) {
		t.Errorf("roots %v", b.Roots)
	}
}

// TestARootOfWhatIsFreed: it is got as it was set, and names nothing.
func TestARootOfWhatIsFreed(t *testing.T) {
	play(t, withLens(2, 3, 3),
		step{o: set("a", to(1, 5))}, step{o: free(to(1, 5))}, step{o: get("a"), h: to(1, 5)}, step{o: set("b", to(1, 5)), e: api.ErrHandle},
		step{o: set("a", to(1, 5)), e: api.ErrHandle}, step{o: alloc(1), h: to(1, 6)}, step{o: get("a"), h: to(1, 5)},
		step{o: read(to(1, 5), 0, 1), e: api.ErrHandle}, step{o: set("a", to(1, 6))}, step{o: get("a"), h: to(1, 6)}, step{o: drop("a")}, step{o: get("a"), e: api.ErrName})
}
