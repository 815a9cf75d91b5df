package model

import (
	"testing"

	"joist/api"
)

// P20.1: Same, SameReply

func same(t *testing.T, what string, a, b api.Abstract) {
	t.Helper()
	if !Same(a, b) || !Same(b, a) {
		t.Fatalf("%s: Same(%+v, %+v) = false", what, a, b)
	}
}

func unlike(t *testing.T, what string, a, b api.Abstract) {
	t.Helper()
	if Same(a, b) || Same(b, a) {
		t.Fatalf("%s: Same(%+v, %+v) = true", what, a, b)
	}
}

func TestSameOfCopies(t *testing.T) {
	all := append(rightHeaps(), wrongHeaps()...)
	for _, a := range all {
		same(t, "itself", a, a)
		same(t, "a copy", a, own(a))
	}
	for i, a := range all {
		for _, b := range all[i:] {
			if Same(a, b) != alike(a, b) || Same(b, a) != alike(a, b) {
				t.Fatalf("Same(%+v, %+v) = %v", a, b, !alike(a, b))
			}
		}
	}
}

func TestEmptyRowsAreAlike(t *testing.T) {
	same(t, "no rows", api.Abstract{}, api.Abstract{Gens: []int{}, Data: [][]byte{}, Roots: []api.Root{}})
	a, b := few(), few()
	a.Data[1], a.Data[3], b.Data[1], b.Data[3] = nil, []byte{}, []byte{}, nil
	same(t, "rows without bytes", a, b)
	unlike(t, "a row and none", bare(2, 2), api.Abstract{Gens: make([]int, 2), Roots: make([]api.Root, 2)})
	unlike(t, "a row and none", bare(2, 2), api.Abstract{Data: make([][]byte, 2), Roots: make([]api.Root, 2)})
	unlike(t, "a root and none", bare(2, 2), bare(2, 0))
}

func TestEachPartTellsApart(t *testing.T) {
	for k := range 6 {
		for _, n := range append(far(), -1, 1, 2, 300) {
			a := few()
			if a.Gens[k] == n {
				continue
			}
			a.Gens[k] = n
			unlike(t, "Gen", few(), a)
		}
		for i := range few().Data[k] {
			for turn := 1; turn < 256; turn++ {
				a := few()
				a.Data[k][i] ^= byte(turn)
				unlike(t, "a byte", few(), a)
			}
		}
		a := few()
		a.Data[k] = append(a.Data[k], 0)
		unlike(t, "a byte more", few(), a)
	}
	for k := range 4 {
		for _, n := range append(far(), -1, 3) {
			a, b, c := few(), few(), few()
			a.Roots[k].To.Index, b.Roots[k].To.Gen = n, n
			unlike(t, "To's Index", few(), a)
			unlike(t, "To's Gen", few(), b)
			unlike(t, "Index and Gen", a, b)
			c.Roots[k].Name += "x"
			unlike(t, "Name", few(), c)
		}
	}
}

func TestOrderAndLengthsTellApart(t *testing.T) {
	for what, turn := range map[string]func(a *api.Abstract){
		"Gens swapped":  func(a *api.Abstract) { a.Gens[0], a.Gens[1] = a.Gens[1], a.Gens[0] },
		"Data swapped":  func(a *api.Abstract) { a.Data[0], a.Data[1] = a.Data[1], a.Data[0] },
		"roots swapped": func(a *api.Abstract) { a.Roots[0], a.Roots[1] = a.Roots[1], a.Roots[0] },
		"a Gen more":    func(a *api.Abstract) { a.Gens = append(a.Gens, 0) },
		"a row more":    func(a *api.Abstract) { a.Data = append(a.Data, nil) },
		"a root more":   func(a *api.Abstract) { a.Roots = append(a.Roots, api.Root{}) },
		"a Gen fewer":   func(a *api.Abstract) { a.Gens = a.Gens[:5] },
		"a row fewer":   func(a *api.Abstract) { a.Data = a.Data[:5] },
		"a root fewer":  func(a *api.Abstract) { a.Roots = a.Roots[:3] },
		"the first Gen": func(a *api.Abstract) { a.Gens = a.Gens[1:] },
		"the first row": func(a *api.Abstract) { a.Data = a.Data[1:] },
		"no Gens":       func(a *api.Abstract) { a.Gens = nil },
		"no Data":       func(a *api.Abstract) { a.Data = nil },
		"no roots":      func(a *api.Abstract) { a.Roots = nil },
		"bytes cut":     func(a *api.Abstract) { a.Data[4] = a.Data[4][:299] },
		"bytes no more": func(a *api.Abstract) { a.Data[2] = nil },
	} {
		unlike(t, what, few(), turned(turn))
	}
}

func TestSameReply(t *testing.T) {
	all := []api.Reply{
		{}, {H: to(0, 1)}, {H: to(1, 0)}, {H: to(1, 1)}, {H: to(-1, 0)}, {H: to(1<<32, 0)}, {H: to(0, 1<<32)},
		{B: []byte{0}}, {B: []byte{1}}, {B: []byte{0, 0}}, {B: []byte{1, 0}}, {B: []byte{0, 1}}, {H: to(0, 1), B: []byte{1}}, {B: filling(1, lastLen)}, {B: filling(2, lastLen)}, {B: filling(1, 3*lastLen)},
	}
	for i, a := range all {
		for j, b := range all {
			b.B = append([]byte(nil), b.B...)
			if SameReply(a, b) != (i == j) {
				t.Errorf("SameReply(%v, %v) = %v", a, b, i != j)
			}
		}
	}
	if !SameReply(api.Reply{B: []byte{}}, api.Reply{}) || !SameReply(api.Reply{}, api.Reply{B: []byte{}}) {
		t.Error("a reply of no bytes is not the same as one of none")
	}
}
