package model

import (
	"slices"
	"strings"
	"testing"
	"unsafe"

	"joist/api"
)

// P20.3

const (
	spareOf = 40
	oddByte = 0xa5
)

// What stands in spare room: no call writes it, and one that went by it would answer otherwise.
func oddRow() []byte    { return []byte{oddByte, oddByte} }
func oddRoot() api.Root { return root("odd-one", 5, 6) }
func oddGen() int       { return 77 }
func oddSlot() api.Slot { return api.Slot{Gen: 3, Live: true, At: 16, Len: 2} }
func odd() byte         { return oddByte }

// spacious is a copy of l with spare room behind it.
func spacious[T any](l []T, spare func() T) []T {
	all := slices.Clone(l)
	for range spareOf {
		all = append(all, spare())
	}
	return all[:len(l):len(all)]
}

// roomy is a copy of a with spare room behind each of its rows.
func roomy(a api.Abstract) api.Abstract {
	a = own(a)
	for k, b := range a.Data {
		a.Data[k] = spacious(b, odd)
	}
	return api.Abstract{Gens: spacious(a.Gens, oddGen), Data: spacious(a.Data, oddRow), Roots: spacious(a.Roots, oddRoot)}
}

// whole is a with its rows' spare room as parts of them, as far as it goes.
func whole(a api.Abstract) api.Abstract {
	w := api.Abstract{Gens: a.Gens[:cap(a.Gens)], Data: slices.Clone(a.Data[:cap(a.Data)]), Roots: a.Roots[:cap(a.Roots)]}
	for k, b := range w.Data {
		w.Data[k] = b[:cap(b)]
	}
	return w
}

// scribble writes over all of a heap's rows and their spare room.
func scribble(a api.Abstract) {
	all := whole(a)
	for _, b := range all.Data {
		scribbleBytes(b)
	}
	for k := range all.Gens {
		all.Gens[k] = -9
	}
	for k := range all.Roots {
		all.Roots[k] = root("scribble", -9, -9)
	}
	rows := a.Data[:cap(a.Data)]
	for k := range rows {
		rows[k] = []byte("scribble")
	}
}

func scribbleBytes(b []byte) {
	b = b[:cap(b)]
	for i := range b {
		b[i] ^= 0xff
	}
}

// someOps do something to some object of a heap, to its roots, or nothing, or are refused.
func someOps(a api.Abstract) []api.Op {
	l := []api.Op{{}, alloc(1), alloc(40), alloc(0), get("a"), get("none"), get(""), drop("a"), drop("none"), set("new", to(0, -1))}
	for k, gen := range a.Gens[:min(len(a.Gens), 6)] {
		h, size := to(k, gen), 0
		if k < len(a.Data) {
			size = len(a.Data[k])
		}
		l = append(l, free(h), resize(h, 1), resize(h, size), resize(h, size+3), read(h, 0, size), read(h, size, 0), read(h, size/2, size-size/2), read(h, 0, size+1),
			write(h, 0, 200, 201), write(h, size), write(h, size-1, 9), write(h, 0, filling(3, size)...), write(h, 0, filling(3, size+1)...),
			set("new", h), set("a", h), set("a b", h))
	}
	for _, r := range a.Roots {
		l = append(l, get(r.Name), drop(r.Name), set(r.Name, to(0, 0)))
	}
	return l
}

// heaps are right ones and others, small enough to be written over often.
func heaps(seed uint32) []api.Abstract {
	roll := dice(seed)
	l := []api.Abstract{few(), bare(2, 2), oneOpen(6, 3), spent(2), withLens(2, 1, 2), {}, bare(3, 3)}
	for range 6 {
		l = append(l, rolled(roll))
	}
	return append(l, wrongHeaps()[:12]...)
}

// doneTo is a heap behind an op that may be done to it.
func doneTo(t *testing.T, a api.Abstract, o api.Op) api.Abstract {
	t.Helper()
	b, _, e := Do(a, o)
	if e != api.OK {
		t.Fatalf("Do(%+v, %+v): %d", a, o, e)
	}
	return b
}

// TestNothingHandedInIsChanged: not the rows, not what is in them, not their spare room.
func TestNothingHandedInIsChanged(t *testing.T) {
	for _, was := range heaps(41) {
		a, other := roomy(was), roomy(was)
		kept := own(whole(a))
		Right(a)
		Same(a, other)
		Same(other, a)
		Same(a, a)
		for _, o := range someOps(was) {
			o.B = spacious(o.B, odd)
			b := slices.Clone(o.B[:cap(o.B)])
			Do(a, o)
			if string(o.B[:cap(o.B)]) != string(b) {
				t.Fatalf("%+v's bytes or their spare room are changed", o)
			}
		}
		if !alike(a, was) || !alike(whole(a), kept) || !alike(whole(other), kept) {
			t.Fatalf("%+v or its spare room is changed", was)
		}
	}
}

// TestAnswersGoByLength: spare room is no part of a heap, nor of an op.
func TestAnswersGoByLength(t *testing.T) {
	for _, was := range heaps(42) {
		a := roomy(was)
		if Right(a) != isRight(was) {
			t.Fatalf("Right(%+v) = %v", was, Right(a))
		}
		same(t, "spare room", a, was)
		for _, o := range someOps(was) {
			o.B = spacious(o.B, odd)
			do(t, a, o)
		}
	}
}

// TestNothingIsKept: an answer stays as it was, when all that was handed in is written over.
func TestNothingIsKept(t *testing.T) {
	for _, was := range heaps(43) {
		for _, o := range someOps(was) {
			want, wantReply, _ := byHand(was, o)
			a := roomy(was)
			o.B = spacious(o.B, odd)
			got, r, _ := Do(a, o)
			scribble(a)
			scribbleBytes(o.B)
			if !alike(got, want) || !replyIs(r, wantReply) {
				t.Fatalf("Do(%+v, %+v) shares memory", was, o)
			}
		}
	}
}

// TestAnswersAreNewMemory: what was handed in, and other answers, stay as they were, when an answer and all its spare room are written over.
func TestAnswersAreNewMemory(t *testing.T) {
	for _, was := range heaps(44) {
		for _, o := range someOps(was) {
			want, wantReply, _ := byHand(was, o)
			a := roomy(was)
			kept := own(whole(a))
			o.B = spacious(o.B, odd)
			b := slices.Clone(o.B[:cap(o.B)])
			first, r, _ := Do(a, o)
			second, s, _ := Do(a, o)
			scribble(first)
			if !replyIs(r, wantReply) {
				t.Fatalf("Do(%+v, %+v): heap and reply share memory", was, o)
			}
			scribbleBytes(r.B)
			if !alike(second, want) || !replyIs(s, wantReply) || !alike(whole(a), kept) || string(o.B[:cap(o.B)]) != string(b) {
				t.Fatalf("Do(%+v, %+v) answers memory of others", was, o)
			}
			third, _, _ := Do(second, o)
			keptThird := own(third)
			scribble(second)
			if !alike(third, keptThird) {
				t.Fatalf("Do(%+v, %+v) answers memory of others", was, o)
			}
		}
	}
}

// TestReadsAreOfTheirOwn: a reply's bytes and the heap beside it share none.
func TestReadsAreOfTheirOwn(t *testing.T) {
	for _, n := range []int{0, 1, 3, 5} {
		a, r, _ := Do(few(), read(to(0, 0), 0, n))
		scribbleBytes(r.B)
		if !alike(a, few()) {
			t.Fatalf("a reply of %d bytes and its heap share memory", n)
		}
		_ = append(r.B, 9, 9, 9, 9, 9, 9)
		if !alike(a, few()) {
			t.Fatalf("behind a reply of %d bytes is its heap's memory", n)
		}
	}
}

// TestRowsAreApart: each row of an answer has memory of its own, also where those that were handed in share it.
func TestRowsAreApart(t *testing.T) {
	shared := filling(1, 64)
	a := bare(6, 2)
	a.Data = [][]byte{shared, shared, shared[:32], shared[32:], shared[8:8], shared[3:9]}
	want := own(a)
	live := make([]api.Slot, 6)
	for k := range live {
		live[k].Live = true
	}
	for k := range a.Data {
		for _, got := range []api.Abstract{doneTo(t, a, read(to(0, 0), 0, 1)), Of(api.State{Slots: live, Data: a.Data, Roots: a.Roots})} {
			scribbleBytes(got.Data[k])
			got.Data[k] = append(got.Data[k], 1, 2, 3)
			got.Data[k] = want.Data[k]
			if !alike(got, want) || !alike(a, want) {
				t.Fatalf("row %d shares memory", k)
			}
		}
		if len(a.Data[k]) == 0 {
			continue
		}
		b := doneTo(t, a, write(to(k, 0), 0, make([]byte, len(a.Data[k]))...))
		for i := range b.Data {
			if i != k && string(b.Data[i]) != string(want.Data[i]) {
				t.Fatalf("a write to slot %d is in slot %d", k, i)
			}
		}
	}
}

// TestNamesAreNewMemory: W6 speaks of all memory, that of texts too.
func TestNamesAreNewMemory(t *testing.T) {
	fresh := func(s string) string { return string([]byte(s)) }
	at := func(s string) *byte { return unsafe.StringData(s) }
	for _, o := range []api.Op{read(to(0, 0), 0, 1), set(fresh("new"), to(0, 0)), set(fresh("first"), to(0, 0)), drop(fresh("second")), alloc(1), free(to(0, 0))} {
		a := few()
		a.Roots[0].Name, a.Roots[3].Name = fresh("first"), fresh("second")
		first, second := doneTo(t, a, o), doneTo(t, a, o)
		for k, r := range first.Roots {
			if r.Name != "" && (at(r.Name) == at(a.Roots[k].Name) || at(r.Name) == at(second.Roots[k].Name) || at(r.Name) == at(o.Name)) {
				t.Errorf("%+v: root %d shares its name's memory", o, k)
			}
		}
	}
	name := fresh(strings.Repeat("n", 9))
	s := api.State{Roots: []api.Root{root(name, 1, 2), root(name, 3, 4)}}
	first, second := Of(s), Of(s)
	if p, q, r := at(first.Roots[0].Name), at(first.Roots[1].Name), at(second.Roots[0].Name); p == at(name) || p == q || p == r || q == at(name) {
		t.Error("Of shares a name's memory")
	}
}

// TestOfTakesAndGivesNoMemory: states stay as they were, and what was answered of them, too.
func TestOfTakesAndGivesNoMemory(t *testing.T) {
	s := example()
	s.Data[0], s.Data[3] = []byte{1}, []byte{}
	s.Slots, s.Roots, s.Data = spacious(s.Slots, oddSlot), spacious(s.Roots, oddRoot), spacious(s.Data, oddRow)
	for k, b := range s.Data {
		s.Data[k] = spacious(b, odd)
	}
	kept := Of(s)
	all := func() api.Abstract { return whole(api.Abstract{Data: s.Data, Roots: s.Roots}) }
	was, slots := own(all()), slices.Clone(s.Slots[:cap(s.Slots)])
	first, second := Of(s), Of(s)
	scribble(first)
	if !alike(second, kept) || !alike(all(), was) || !slices.Equal(s.Slots[:cap(s.Slots)], slots) {
		t.Fatal("Of answers memory of others, or changes it")
	}
	ofIs(t, s, kept)
	scribble(api.Abstract{Data: s.Data, Roots: s.Roots})
	for k := range s.Slots[:cap(s.Slots)] {
		s.Slots[:cap(s.Slots)][k] = api.Slot{Gen: -9}
	}
	if !alike(second, kept) {
		t.Fatal("Of keeps memory")
	}
	ofIs(t, example(), kept)
}

// TestAnswersDoNotHangOnWhatWasAhead: refused ops and others between leave nothing behind.
func TestAnswersDoNotHangOnWhatWasAhead(t *testing.T) {
	for range 3 {
		for _, a := range heaps(45) {
			for _, o := range someOps(few()) {
				do(t, a, o)
			}
		}
		TestExamples(t)
	}
}
