package tags

import (
	"bytes"
	"slices"
	"testing"

	"joist/api"
)

// P11.5

func TestWhatIsWrittenIsRead(t *testing.T) {
	for _, h := range heaps(31, 300) {
		b, heads, e := Write(h.from, h.to, h.used, h.data)
		if e != api.OK {
			t.Fatalf("Write(%v) tells %v", h, e)
		}
		used, data, is := Read(h.from, h.to, b, heads)
		if !is || !slices.Equal(used, h.used) || len(data) != len(used) {
			t.Fatalf("Read of Write(%v) = %v, %v, %v", h, used, data, is)
		}
		for k, row := range data {
			n := len(h.data[k])
			if len(row) != 8*(used[k].Size-2) || !bytes.Equal(row[:n], h.data[k]) || len(bytes.Trim(row[n:], "\x00")) > 0 {
				t.Fatalf("%v: data %d = %v; want %v with bytes 0 behind", h, k, row, h.data[k])
			}
		}
	}
}

func TestWhatIsReadIsWritten(t *testing.T) {
	roll := dice(32)
	for _, h := range heaps(33, 200) {
		h = full(h)
		for _, row := range h.data {
			for i := range row {
				row[i] = byte(roll(256))
			}
		}
		b, heads := laid(h)
		used, data, is := Read(h.from, h.to, b, heads)
		if !is {
			t.Fatalf("the bytes of %v are not read", h)
		}
		again, first, e := Write(h.from, h.to, used, data)
		if e != api.OK || !bytes.Equal(again, b) || !slices.Equal(first, heads) {
			t.Fatalf("Write of Read of the bytes of %v = %v, %v, %v", h, again, first, e)
		}
	}
}

// TestHeapsThatGoOn: blocks come and go, and each time the heap is what is read of its bytes.
func TestHeapsThatGoOn(t *testing.T) {
	roll := dice(34)
	for range 20 {
		h := rollHeap(roll)
		for range 60 {
			h = turn(roll, h)
			if !look(t, h) {
				t.Fatalf("%v is not right", h)
			}
			b, heads, _ := Write(h.from, h.to, h.used, h.data)
			h.used, h.data, _ = Read(h.from, h.to, b, heads)
		}
	}
}

// turn takes a block out, or lays one at the beginning of a gap, with an Index that none has.
func turn(roll func(int) int, h heap) heap {
	l := free(h)
	if len(h.used) > 0 && (len(l) == 0 || len(h.used) == slots || roll(3) == 0) {
		k := roll(len(h.used))
		h.used, h.data = slices.Delete(h.used, k, k+1), slices.Delete(h.data, k, k+1)
		return h
	}
	if len(l) == 0 {
		return h
	}
	gap := l[roll(len(l))]
	s := api.Block{At: gap.At, Size: min(gap.Size, unit*(1+roll(20)))}
	for slices.ContainsFunc(h.used, func(one api.Block) bool { return one.Index == s.Index }) {
		s.Index++
	}
	k := 0
	for k < len(h.used) && h.used[k].At < s.At {
		k++
	}
	h.used = slices.Insert(h.used, k, s)
	h.data = slices.Insert(h.data, k, fill(1+roll(room(s))))
	return h
}

// P11.6

func TestTagsLeadToTheEnd(t *testing.T) {
	for _, h := range heaps(35, 300) {
		b, _, e := Write(h.from, h.to, h.used, h.data)
		if e != api.OK {
			t.Fatalf("Write(%v) tells %v", h, e)
		}
		var ahead, back []api.Block
		at := 0
		for at < h.to-h.from {
			tag := int(word(b, at))
			size := tag / 64
			if size < unit || at+size > h.to-h.from || int(word(b, at+size-1)) != tag {
				t.Fatalf("%v: at word %d stands the tag %d, which leads nowhere", h, at, tag)
			}
			ahead = append(ahead, api.Block{At: h.from + at, Size: size, Index: tag%64 - 1})
			at += size
		}
		// The last tags lead back the same way.
		for at > 0 {
			tag := int(word(b, at-1))
			at -= tag / 64
			back = append(back, api.Block{At: h.from + at, Size: tag / 64, Index: tag%64 - 1})
		}
		slices.Reverse(back)
		if at != 0 || !slices.Equal(ahead, back) || !slices.Equal(ahead, all(h)) {
			t.Fatalf("%v: tags lead through %v, and back through %v", h, ahead, back)
		}
	}
}

// all are the blocks of a heap, used and free, by rising At.
func all(h heap) []api.Block {
	l := slices.Clone(h.used)
	for _, s := range free(h) {
		l = append(l, api.Block{At: s.At, Size: s.Size, Index: -1})
	}
	slices.SortFunc(l, func(a, b api.Block) int { return a.At - b.At })
	return l
}

// TestListsLeadThroughAllThatIsFree: from the heads on, and back, each free block stands in its list once, by rising At.
func TestListsLeadThroughAllThatIsFree(t *testing.T) {
	for _, h := range heaps(36, 200) {
		b, heads, _ := Write(h.from, h.to, h.used, h.data)
		var l []api.Span
		for list, link := range heads {
			last := 0
			for link != 0 {
				at := link - 1 - h.from
				s := api.Span{At: link - 1, Size: int(word(b, at)) / 64}
				k, _ := List(s.Size)
				if word(b, at)%64 != 0 || k != list || link <= last || word(b, at+2) != uint64(last) {
					t.Fatalf("%v: list %d: %v stands there, or its links lead elsewhere", h, list, s)
				}
				l = append(l, s)
				last, link = link, int(word(b, at+1))
			}
		}
		slices.SortFunc(l, func(a, b api.Span) int { return a.At - b.At })
		if !slices.Equal(l, free(h)) {
			t.Fatalf("%v: lists lead through %v; want %v", h, l, free(h))
		}
	}
}
