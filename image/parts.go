package image

import (
	"iter"

	"joist/api"
	"joist/pages"
	"joist/roots"
	"joist/slab"
	"joist/state"
	"joist/super"
	"joist/table"
	"joist/tags"
	"joist/tree"
	"joist/words"
)

const (
	pageBytes = api.PageWords * api.WordSize
	pageLines = pageBytes / api.LineSize
)

// heap is a right state, with what more than one of its parts is laid out by. The layers below refuse nothing of a right state, so what they say of errors is not looked at.
type heap struct {
	state   api.State
	objects []api.Object // of format 2
	slots   []int        // of these
	kinds   []int        // of the pages of format 2
	blocks  []byte       // the heap of format 1, and its heads
	heads   []int
}

// slabPage is a page that is a slab, with its neighbors as its bytes tell them.
type slabPage struct {
	page  int
	class int
	next  int
	prev  int
}

func heapOf(s api.State) *heap {
	h := &heap{state: s}
	h.objects, h.slots = state.Twos(s)
	h.kinds, _ = pages.Kinds(s.Base, h.objects)
	used := state.Ones(s)
	data := make([][]byte, len(used))
	for k, block := range used {
		data[k] = s.Data[block.Index]
	}
	h.blocks, h.heads, _ = tags.Write(s.Base*api.PageWords, s.Shape.Pages*api.PageWords, used, data)
	return h
}

func (h *heap) head() []byte {
	b, _ := super.Write(h.state.Shape, h.state.Mode, h.state.Base)
	return b
}

// firsts are the line of the heads: where each list begins, the open slots' ahead of the others.
func (h *heap) firsts() []byte {
	open := 0
	if k, is := table.Next(h.state.Slots); is {
		open = k + 1
	}
	b, _ := words.Of(append([]int{open}, h.heads...)...)
	return b
}

func (h *heap) table() []byte {
	b, _ := table.Bytes(h.state.Slots)
	return b
}

func (h *heap) roots() []byte {
	b, _ := roots.Bytes(h.state.Roots)
	return b
}

func (h *heap) tree() []byte {
	extents, _ := tree.From(h.kinds)
	b, _ := tree.Write(h.state.Base, tree.Nodes(api.MaxPages), extents)
	return b
}

func (h *heap) formatOne() []byte { return h.blocks }

func (h *heap) formatTwo() []byte {
	b := make([]byte, h.state.Base*pageBytes)
	for s := range h.slabs() {
		copy(b[s.page*pageBytes:], h.slab(s))
	}
	for k, o := range h.objects {
		if h.kinds[o.At/api.PageWords] == api.PageFirst {
			copy(b[o.At*api.WordSize:], h.state.Data[h.slots[k]])
		}
	}
	return b
}

// slabs goes through the pages that are slabs, from the front.
func (h *heap) slabs() iter.Seq[slabPage] {
	return func(yield func(slabPage) bool) {
		for page, kind := range h.kinds {
			isSlab := kind >= 0 && kind < api.Classes
			if isSlab && !yield(slabPage{page: page, class: kind, next: h.neighbor(page, 1), prev: h.neighbor(page, -1)}) {
				return
			}
		}
	}
}

// neighbor is 1 more than the number of the nearest page of that page's kind, going by step; 0, if there is none.
func (h *heap) neighbor(page, step int) int {
	for other := page + step; other >= 0 && other < len(h.kinds); other += step {
		if h.kinds[other] == h.kinds[page] {
			return other + 1
		}
	}
	return 0
}

// slab goes through the cells and looks for their objects, as those stand by their slots, and cells have to rise.
func (h *heap) slab(s slabPage) []byte {
	mates := pages.Mates(h.state.Base, h.objects, s.page)
	var used []int
	var data [][]byte
	for cell, word := range cells(h.objects[mates[0]].Len) {
		for _, k := range mates {
			if h.objects[k].At == s.page*api.PageWords+word {
				used = append(used, cell)
				data = append(data, h.state.Data[h.slots[k]])
			}
		}
	}
	b, _ := slab.Write(s.class, used, data, s.next, s.prev)
	return b
}

// cells goes through all cells of a slab of objects of n bytes: the number of each, and the word in the slab where it begins. That is where such objects go one after another, if a page is all that they have.
func cells(n int) iter.Seq2[int, int] {
	return func(yield func(int, int) bool) {
		var ahead []api.Object
		for {
			word, is := pages.Place(1, ahead, n)
			if !is || !yield(len(ahead), word) {
				return
			}
			ahead = append(ahead, api.Object{At: word, Len: n})
		}
	}
}
