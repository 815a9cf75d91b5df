package model

import (
	"bytes"
	"testing"

	"joist/api"
)

// othersStay sees that behind an op nothing is other but what it speaks of: slot k (-1: none), and the roots, if it is of them.
func othersStay(t *testing.T, o api.Op, a, b api.Abstract, k int) {
	t.Helper()
	for i := range a.Gens {
		if i != k && (a.Gens[i] != b.Gens[i] || !bytes.Equal(a.Data[i], b.Data[i])) {
			t.Fatalf("%+v: slot %d of %+v became %d, %v", o, i, a, b.Gens[i], b.Data[i])
		}
	}
	for i := range a.Roots {
		of := (o.Do == api.OpSet || o.Do == api.OpDrop) && (a.Roots[i].Name == o.Name || b.Roots[i].Name == o.Name)
		if !of && a.Roots[i] != b.Roots[i] {
			t.Fatalf("%+v: root %d of %+v became %+v", o, i, a, b.Roots[i])
		}
	}
}

// touched is the slot that an op changes, of what came of it.
func touched(o api.Op, r api.Reply) int {
	switch o.Do {
	case api.OpAlloc:
		return r.H.Index
	case api.OpFree, api.OpResize, api.OpWrite:
		return o.H.Index
	}
	return -1
}

// P20.4

// TestWhatIsRightStaysRight: and with an error nothing changes, and no other's bytes ever do.
func TestWhatIsRightStaysRight(t *testing.T) {
	for _, a := range rightHeaps() {
		if len(a.Gens) > 8 {
			continue
		}
		for _, o := range opsOf(a) {
			was := own(a)
			b, r, e := Do(a, o)
			if !alike(a, was) {
				t.Fatalf("%+v changed %+v", o, was)
			}
			if e != api.OK {
				if Right(b) || !alike(b, api.Abstract{}) || !replyIs(r, api.Reply{}) {
					t.Fatalf("%+v: beside %d stands %+v, %+v", o, e, b, r)
				}
				continue
			}
			if !Right(b) || !isRight(b) || len(b.Gens) != len(a.Gens) || len(b.Roots) != len(a.Roots) {
				t.Fatalf("%+v made %+v of %+v", o, b, a)
			}
			othersStay(t, o, a, b, touched(o, r))
		}
	}
}

// pick is an op for a heap: most often one that may be done.
func pick(roll func(int) int, a api.Abstract) api.Op {
	k := roll(len(a.Gens))
	h, size := to(k, a.Gens[k]-roll(8)/7), len(a.Data[k])
	lens := []int{1, 2, 7, 64, 100, lastLen, 0, lastLen + 1}
	name := []string{"a", "b", "c", "d", "e", "a b"}[roll(6)]
	switch 1 + roll(9) {
	case 1:
		return alloc(lens[roll(8)])
	case 2:
		return free(h)
	case 3:
		return resize(h, lens[roll(8)])
	case 4:
		off := roll(size + 2)
		return read(h, off, roll(size+2))
	case 5:
		off := roll(size + 1)
		return write(h, off, filling(roll(9), roll(size-off+2))...)
	case 6:
		return set(name, h)
	case 7:
		return get(name)
	case 8:
		return drop(name)
	}
	return api.Op{Do: roll(20) - 5, H: h, N: 1, Name: name}
}

// TestLongRuns: op behind op, held against a reckoning by hand.
func TestLongRuns(t *testing.T) {
	for seed, a := range []api.Abstract{bare(2, 2), bare(4, 2), bare(8, 4), few(), oneOpen(6, 1), spent(2), bare(mostSlots, mostRoots)} {
		roll := dice(uint32(seed) + 100)
		for range 1500 {
			o := pick(roll, a)
			b, r, e := do(t, a, o)
			if e != api.OK {
				continue
			}
			if !Right(b) {
				t.Fatalf("%+v made %+v of %+v", o, b, a)
			}
			othersStay(t, o, a, b, touched(o, r))
			a = b
		}
	}
}

// P20.5

// TestWhatWasWrittenIsRead: at each place of an object, and the rest of it stays.
func TestWhatWasWrittenIsRead(t *testing.T) {
	for _, a := range []api.Abstract{few(), withLens(2, 1, 70), withLens(2, lastLen, 3)} {
		for k, gen := range a.Gens {
			h, size := to(k, gen), len(a.Data[k])
			if size == 0 {
				continue
			}
			for off := 0; off <= size; off += 1 + off/9 {
				for n := 0; n <= size-off; n += 1 + n/5 {
					what := bytes.Repeat([]byte{0}, n)
					b := doneTo(t, a, write(h, off, what...))
					_, r, e := Do(b, read(h, off, n))
					_, ahead, f := Do(b, read(h, 0, off))
					_, behind, g := Do(b, read(h, off+n, size-off-n))
					if e != api.OK || f != api.OK || g != api.OK || !bytes.Equal(r.B, what) ||
						!bytes.Equal(ahead.B, a.Data[k][:off]) || !bytes.Equal(behind.B, a.Data[k][off+n:]) {
						t.Fatalf("%d bytes from %d on of %d: %v %v %v", n, off, size, ahead.B, r.B, behind.B)
					}
				}
			}
		}
	}
}

// notGood sees that handles that were freed are good no more.
func notGood(t *testing.T, a api.Abstract, gone []api.Handle) {
	t.Helper()
	for _, h := range gone {
		if _, _, e := Do(a, read(h, 0, 0)); e != api.ErrHandle && h.Gen != lastGen {
			t.Fatalf("%v was freed, and is good: %d", h, e)
		}
	}
}

// TestNoHandleComesTwice: what was freed is good no more, whatever is done behind that, as Gens go on; a handle that OpAlloc gives is new each time.
func TestNoHandleComesTwice(t *testing.T) {
	for seed, a := range []api.Abstract{bare(2, 2), bare(6, 2), turned(func(a *api.Abstract) {})} {
		roll := dice(uint32(seed) + 200)
		freed, given := map[api.Handle]int{}, map[api.Handle]int{}
		var gone []api.Handle
		for range 3000 {
			o := pick(roll, a)
			if o.Do == api.OpResize {
				o.N = 1 + o.N%9
			}
			b, r, e := Do(a, o)
			if e != api.OK {
				continue
			}
			if o.Do == api.OpAlloc {
				given[r.H]++
				if given[r.H] > 1 || freed[r.H] > 0 {
					t.Fatalf("%v is given a second time", r.H)
				}
			}
			if o.Do == api.OpFree {
				freed[o.H]++
				gone = append(gone, o.H)
			}
			a = b
			notGood(t, a, gone[len(gone)-min(len(gone), 20):])
		}
		notGood(t, a, gone)
		if len(given) < 4 {
			t.Errorf("%d handles were given", len(given))
		}
	}
}

// TestAFreedSlotOfMaxGen: no slot is taken behind it; and one that is live there again, made by other hands, has the handle that it had.
func TestAFreedSlotOfMaxGen(t *testing.T) {
	h := to(0, lastGen)
	a := withLens(2, 3, 3)
	a.Gens = []int{lastGen, lastGen}
	b := play(t, a, step{o: free(h)}, step{o: alloc(1), e: api.ErrTable}, step{o: read(h, 0, 0), e: api.ErrHandle}, step{o: free(h), e: api.ErrHandle})
	b.Data[0] = []byte{5}
	play(t, b, step{o: read(h, 0, 1), b: []byte{5}}, step{o: free(h)}, step{o: read(h, 0, 0), e: api.ErrHandle})
}
