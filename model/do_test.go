package model

import (
	"bytes"
	"slices"
	"testing"

	"joist/api"
)

// P20.2

// step is an op, and what the chapter says of it.
type step struct {
	o api.Op
	h api.Handle
	b []byte
	e api.Errno
}

// play does one op behind another, from a on.
func play(t *testing.T, a api.Abstract, l ...step) api.Abstract {
	t.Helper()
	for i, s := range l {
		b, r, e := doAlso(t, a, s.o)
		if e != s.e || r.H != s.h || !bytes.Equal(r.B, s.b) {
			t.Fatalf("op %d, %+v: %+v, %d, not %v, %v, %d", i, s.o, r, e, s.h, s.b, s.e)
		}
		if e == api.OK {
			a = b
		}
	}
	return a
}

func alloc(n int) api.Op                { return api.Op{Do: api.OpAlloc, N: n} }
func free(h api.Handle) api.Op          { return api.Op{Do: api.OpFree, H: h} }
func resize(h api.Handle, n int) api.Op { return api.Op{Do: api.OpResize, H: h, N: n} }
func get(name string) api.Op            { return api.Op{Do: api.OpGet, Name: name} }
func drop(name string) api.Op           { return api.Op{Do: api.OpDrop, Name: name} }
func set(name string, h api.Handle) api.Op {
	return api.Op{Do: api.OpSet, Name: name, H: h}
}
func read(h api.Handle, off, n int) api.Op {
	return api.Op{Do: api.OpRead, H: h, Off: off, N: n}
}
func write(h api.Handle, off int, b ...byte) api.Op {
	return api.Op{Do: api.OpWrite, H: h, Off: off, B: b}
}

func TestExamples(t *testing.T) {
	play(t, bare(2, 2),
		step{o: alloc(4), h: to(0, 0)},
		step{o: write(to(0, 0), 1, 7)},
		step{o: read(to(0, 0), 0, 4), b: []byte{0, 7, 0, 0}},
		step{o: free(to(0, 0))},
		step{o: read(to(0, 0), 0, 4), e: api.ErrHandle},
		step{o: alloc(1), h: to(0, 1)})
}

// TestEachOpOnEachHeap: the document's words, with the edges and what is past them.
func TestEachOpOnEachHeap(t *testing.T) {
	for _, a := range rightHeaps() {
		seen := make([]int, 12)
		for _, o := range opsOf(a) {
			_, _, e := do(t, a, o)
			seen[e]++
		}
		if seen[api.ErrArg] == 0 || seen[api.ErrForm] == 0 || seen[api.ErrHandle] == 0 {
			t.Fatalf("%+v: %v ops by their errors", a, seen)
		}
	}
}

func TestFieldsThatAreNotNamedDoNotMatter(t *testing.T) {
	for _, a := range []api.Abstract{few(), bare(2, 2), oneOpen(6, 3)} {
		for _, o := range opsOf(a) {
			doAlso(t, a, o)
		}
	}
}

func TestAHeapThatIsNotRight(t *testing.T) {
	ops := []api.Op{
		{}, alloc(1), alloc(0), free(to(0, 0)), free(to(-1, 0)), resize(to(0, 0), 2), read(to(0, 0), 0, 1), write(to(0, 0), 0, 1),
		set("b", to(0, 0)), set("a b", to(0, 0)), get("a"), get("a b"), get("b"), drop("a"), drop(""), {Do: 9}, {Do: -1},
	}
	for _, a := range wrongHeaps() {
		for _, o := range ops {
			_, _, e := do(t, a, o)
			if !isRight(a) && e != api.ErrArg {
				t.Fatalf("Do(%+v, %+v): %d", a, o, e)
			}
		}
	}
}

func TestAnotherDo(t *testing.T) {
	for _, n := range append(far(), -1, 0, 9, 10, 16, 256, 257, 264) {
		for _, o := range opsOf(few())[:40] {
			o.Do = n
			if _, _, e := do(t, few(), o); e != api.ErrArg {
				t.Fatalf("Do %d: %d", n, e)
			}
		}
	}
	for n := 1; n <= 8; n++ {
		if _, _, e := do(t, few(), api.Op{Do: n, H: to(0, 0), N: 5, Name: "a", B: []byte{1}}); e != api.OK {
			t.Errorf("Do %d: %d", n, e)
		}
	}
}

// TestAllocTakesTheFirstOpenSlot: for each choice of open ones, whatever the others are.
func TestAllocTakesTheFirstOpenSlot(t *testing.T) {
	for n := 2; n <= 8; n += 2 {
		for m := range 1 << n {
			a := bare(n, 2)
			first := -1
			for k := range n {
				a.Gens[k] = 10 * k
				switch {
				case m>>k&1 == 1 && first < 0:
					first = k
				case m>>k&1 == 0 && k%2 == 0:
					a.Data[k] = filling(k, k+1)
				case m>>k&1 == 0:
					a.Gens[k] = lastGen
				}
			}
			if first < 0 {
				play(t, a, step{o: alloc(3), e: api.ErrTable}, step{o: alloc(0), e: api.ErrArg}, step{o: alloc(lastLen + 1), e: api.ErrArg})
				continue
			}
			h := to(first, 10*first)
			play(t, a, step{o: alloc(3), h: h}, step{o: read(h, 0, 3), b: []byte{0, 0, 0}})
		}
	}
}

// TestAllocTillNoSlotIsOpen: each slot once, rising, and none further.
func TestAllocTillNoSlotIsOpen(t *testing.T) {
	for _, n := range []int{2, 4, 30, mostSlots} {
		a := bare(n, 2)
		for k := range n {
			size := []int{1, lastLen, lastLen - 1, 7}[k%4]
			a = play(t, a, step{o: alloc(size), h: to(k, 0)}, step{o: read(to(k, 0), 0, size), b: make([]byte, size)})
		}
		a = play(t, a, step{o: alloc(1), e: api.ErrTable}, step{o: alloc(0), e: api.ErrArg}, step{o: free(to(n-1, 0))}, step{o: alloc(1), h: to(n-1, 1)}, step{o: alloc(1), e: api.ErrTable})
		if slices.Max(a.Gens) != 1 {
			t.Errorf("Gens %v", a.Gens)
		}
	}
	play(t, spent(2), step{o: alloc(1), e: api.ErrTable})
	play(t, spent(mostSlots), step{o: alloc(lastLen), e: api.ErrTable})
}

func TestAllocSizes(t *testing.T) {
	for n := -2; n <= lastLen+2; n++ {
		_, r, e := do(t, few(), alloc(n))
		if want := n >= 1 && n <= lastLen; (e == api.OK) != want || want && r.H != to(1, 9) {
			t.Errorf("OpAlloc of %d: %+v, %d", n, r, e)
		}
	}
}

// TestFreeAndGens: a Gen rises, up to MaxGen; there it stays, and the slot is spent.
func TestFreeAndGens(t *testing.T) {
	for _, gen := range []int{0, 1, 2, 255, 256, 32767, 32768, lastGen - 2, lastGen - 1, lastGen} {
		a := few()
		a.Gens[4] = gen
		b := play(t, a, step{o: free(to(4, gen))}, step{o: free(to(4, gen)), e: api.ErrHandle}, step{o: free(to(4, gen+1)), e: api.ErrHandle})
		if b.Gens[4] != min(gen+1, lastGen) || len(b.Data[4]) != 0 {
			t.Errorf("freed at Gen %d: Gen %d, %v", gen, b.Gens[4], b.Data[4])
		}
	}
	a := withLens(2, 3, 3)
	a.Gens = []int{lastGen, lastGen - 1}
	play(t, a,
		step{o: free(to(0, lastGen))}, step{o: alloc(1), e: api.ErrTable},
		step{o: free(to(1, lastGen-1))}, step{o: alloc(1), e: api.ErrTable})
	a.Gens[1] = lastGen - 2
	play(t, a,
		step{o: free(to(1, lastGen-2))}, step{o: alloc(1), h: to(1, lastGen-1)},
		step{o: free(to(1, lastGen-1))}, step{o: alloc(1), e: api.ErrTable})
}
