package model

import (
	"strings"
	"testing"

	"joist/api"
)

// goodSlot is the slot whose handle h is, by hand; -1 if it is none's.
func goodSlot(a api.Abstract, h api.Handle) int {
	for k := range a.Gens {
		if len(a.Data[k]) > 0 && h == to(k, a.Gens[k]) {
			return k
		}
	}
	return -1
}

// rootOf is the root of a name, by hand; of the empty one the first that has none.
func rootOf(a api.Abstract, name string) int {
	for k, r := range a.Roots {
		if r.Name == name {
			return k
		}
	}
	return -1
}

func lenMay(n int) bool { return n >= 1 && n <= lastLen }

// byHand is P20.2 once more, word by word.
func byHand(a api.Abstract, o api.Op) (api.Abstract, api.Reply, api.Errno) {
	if !isRight(a) {
		return api.Abstract{}, api.Reply{}, api.ErrArg
	}
	a = own(a)
	var r api.Reply
	var e api.Errno
	switch o.Do {
	case 1:
		r.H, e = allocByHand(a, o.N)
	case 2, 3, 4, 5:
		r.B, e = objectByHand(a, o)
	case 6, 7, 8:
		r.H, e = rootByHand(a, o)
	default:
		e = api.ErrArg
	}
	if e != api.OK {
		return api.Abstract{}, api.Reply{}, e
	}
	return a, r, api.OK
}

func allocByHand(a api.Abstract, n int) (api.Handle, api.Errno) {
	if !lenMay(n) {
		return api.Handle{}, api.ErrArg
	}
	for k := range a.Gens {
		if len(a.Data[k]) == 0 && a.Gens[k] < lastGen {
			a.Data[k] = []byte(strings.Repeat("\x00", n))
			return to(k, a.Gens[k]), api.OK
		}
	}
	return api.Handle{}, api.ErrTable
}

func objectByHand(a api.Abstract, o api.Op) ([]byte, api.Errno) {
	k := goodSlot(a, o.H)
	if k < 0 {
		return nil, api.ErrHandle
	}
	n := o.N
	if o.Do == 5 {
		n = len(o.B)
	}
	size := len(a.Data[k])
	if o.Do == 3 && !lenMay(n) || o.Do >= 4 && (o.Off < 0 || o.Off > size || n < 0 || n > size || o.Off+n > size) {
		return nil, api.ErrArg
	}
	switch o.Do {
	case 2:
		a.Data[k] = nil
		if a.Gens[k] < lastGen {
			a.Gens[k]++
		}
	case 3:
		for len(a.Data[k]) < n {
			a.Data[k] = append(a.Data[k], 0)
		}
		a.Data[k] = a.Data[k][:n]
	case 4:
		return a.Data[k][o.Off : o.Off+n], api.OK
	case 5:
		for i, b := range o.B {
			a.Data[k][o.Off+i] = b
		}
	}
	return nil, api.OK
}

func rootByHand(a api.Abstract, o api.Op) (api.Handle, api.Errno) {
	if !isName(o.Name) {
		return api.Handle{}, api.ErrForm
	}
	if o.Do == 6 && goodSlot(a, o.H) < 0 {
		return api.Handle{}, api.ErrHandle
	}
	k := rootOf(a, o.Name)
	if o.Do == 6 {
		if k < 0 {
			k = rootOf(a, "")
		}
		if k < 0 {
			return api.Handle{}, api.ErrTable
		}
		a.Roots[k] = api.Root{Name: o.Name, To: o.H}
		return api.Handle{}, api.OK
	}
	if k < 0 {
		return api.Handle{}, api.ErrName
	}
	if o.Do == 8 {
		a.Roots[k] = api.Root{}
		return api.Handle{}, api.OK
	}
	return a.Roots[k].To, api.OK
}

func replyIs(a, b api.Reply) bool { return a.H == b.H && string(a.B) == string(b.B) }

// do holds Do against byHand, and that what was handed in stays; it answers what Do did.
func do(t *testing.T, a api.Abstract, o api.Op) (api.Abstract, api.Reply, api.Errno) {
	t.Helper()
	was := own(a)
	want, wantReply, wantErr := byHand(a, o)
	got, r, e := Do(a, o)
	if e != wantErr || !replyIs(r, wantReply) || !alike(got, want) {
		t.Fatalf("Do(%+v, %+v) = %+v, %+v, %d, not %+v, %+v, %d", was, o, got, r, e, want, wantReply, wantErr)
	}
	if e != api.OK && (r.B != nil || got.Gens != nil || got.Data != nil || got.Roots != nil) {
		t.Fatalf("Do(%+v, %+v): beside %d stands %+v, %+v", was, o, e, got, r)
	}
	if !alike(a, was) {
		t.Fatalf("Do(.., %+v) made %+v of %+v", o, a, was)
	}
	return got, r, e
}

// noisy is o with something in each field that its Do does not name.
func noisy(o api.Op, n int) api.Op {
	all := api.Op{Do: o.Do, H: to(n, n), N: n, Off: n, B: filling(n&7, 3), Name: "noise"}
	switch o.Do {
	case api.OpAlloc:
		all.N = o.N
	case api.OpFree:
		all.H = o.H
	case api.OpResize:
		all.H, all.N = o.H, o.N
	case api.OpRead:
		all.H, all.Off, all.N = o.H, o.Off, o.N
	case api.OpWrite:
		all.H, all.Off, all.B = o.H, o.Off, o.B
	case api.OpSet:
		all.Name, all.H = o.Name, o.H
	case api.OpGet, api.OpDrop:
		all.Name = o.Name
	}
	return all
}

// doAlso does o, and sees that what its Do does not name does not matter.
func doAlso(t *testing.T, a api.Abstract, o api.Op) (api.Abstract, api.Reply, api.Errno) {
	t.Helper()
	got, r, e := do(t, a, o)
	for _, n := range []int{-1, 1, 1 << 40} {
		other, s, f := do(t, a, noisy(o, n))
		if f != e || !replyIs(r, s) || !alike(got, other) {
			t.Fatalf("%+v and %+v come to %d and %d", o, noisy(o, n), e, f)
		}
	}
	return got, r, e
}

// handlesOf are a heap's good handles, and others that are nearly so.
func handlesOf(a api.Abstract) []api.Handle {
	l := []api.Handle{to(-1, 0), to(len(a.Gens), 0), to(len(a.Gens)+1, 0), to(-1, -1), to(lastIndex+1, lastGen)}
	for k, gen := range a.Gens {
		if k < 6 || k == len(a.Gens)-1 {
			l = append(l, to(k, gen), to(k, gen-1), to(k, gen+1), to(k, gen+65536), to(k+1<<32, gen), to(k-len(a.Gens), gen))
		}
	}
	for _, n := range far() {
		l = append(l, to(n, 0), to(0, n), to(n, n))
	}
	return l
}

// sizes are Ns and Offs about an object's length.
func sizes(n int) []int {
	return append(far(), 0, 1, 2, n/2, n-1, n, n+1, 2*n, lastLen-1, lastLen, lastLen+1, 2*lastLen)
}

// namesOf are names of a heap's roots, other names, and texts that are none.
func namesOf(a api.Abstract) []string {
	l := []string{"new", "A", "é", "n", strings.Repeat("n", lastName), strings.Repeat("é", 8), "~"}
	l = append(l, "", " ", "a b", "a ", "\x00", "\x7f", "\u00a0", "\ufffd", "\xff", "a\xc3", strings.Repeat("n", lastName+1), strings.Repeat("é", 8)+"n", strings.Repeat("\x00", lastName))
	for _, r := range a.Roots {
		l = append(l, r.Name, strings.ToUpper(r.Name), r.Name+"+")
	}
	return l
}

// opsOf are many ops of each Do for a heap: ones that may be done to it, and others.
func opsOf(a api.Abstract) []api.Op {
	var l []api.Op
	for _, n := range sizes(8) {
		l = append(l, api.Op{Do: api.OpAlloc, N: n}, api.Op{Do: n, H: to(0, a.Gens[0]), N: 1, Name: "a"})
	}
	for _, h := range handlesOf(a) {
		l = append(l, api.Op{Do: api.OpFree, H: h})
		l = append(l, api.Op{Do: api.OpSet, H: h, Name: "new"}, api.Op{Do: api.OpSet, H: h, Name: "a"}, api.Op{Do: api.OpSet, H: h, Name: "a b"}, api.Op{Do: api.OpSet, H: h})
		k := goodSlot(a, h)
		if k < 0 {
			l = append(l, api.Op{Do: api.OpResize, H: h, N: 1}, api.Op{Do: api.OpResize, H: h}, api.Op{Do: api.OpRead, H: h, Off: -1}, api.Op{Do: api.OpRead, H: h}, api.Op{Do: api.OpWrite, H: h})
			continue
		}
		size := len(a.Data[k])
		for i, n := range sizes(size) {
			other := sizes(size)[(i*5+3)%len(sizes(size))]
			l = append(l, api.Op{Do: api.OpResize, H: h, N: n},
				api.Op{Do: api.OpRead, H: h, Off: n, N: 1}, api.Op{Do: api.OpRead, H: h, N: n}, api.Op{Do: api.OpRead, H: h, Off: n, N: size - n}, api.Op{Do: api.OpRead, H: h, Off: n, N: other},
				api.Op{Do: api.OpWrite, H: h, Off: n, B: filling(i, 1)}, api.Op{Do: api.OpWrite, H: h, Off: n}, api.Op{Do: api.OpWrite, H: h, Off: 1, B: filling(i, max(0, min(n, 5000)))})
		}
	}
	for _, name := range namesOf(a) {
		l = append(l, api.Op{Do: api.OpGet, Name: name}, api.Op{Do: api.OpDrop, Name: name})
		for k, gen := range a.Gens[:2] {
			l = append(l, api.Op{Do: api.OpSet, Name: name, H: to(k, gen)}, api.Op{Do: api.OpSet, Name: name, H: to(k, -1)})
		}
	}
	return l
}
