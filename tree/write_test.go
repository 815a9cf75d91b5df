package tree

import (
	"bytes"
	"encoding/binary"
	"math"
	"testing"

	"joist/api"
)

// P14.3, Write

// counts are how many extents trees have at both sides of each change of their levels.
func counts() []int { return []int{0, 1, 2, 6, 7, 8, 14, 15, 48, 49, 50, 56, 57, 63, 64} }

// ofWords are numbers in bytes; those past MaxWord too, which no listed call writes.
func ofWords(l ...int) []byte {
	var b []byte
	for _, n := range l {
		b = binary.LittleEndian.AppendUint64(b, uint64(n))
	}
	return b
}

// nodes are bytes of nodes, each by its words, with words 0 behind.
func nodes(l ...[]int) []byte {
	var b []byte
	for _, numbers := range l {
		one := make([]byte, nodeSize)
		copy(one, ofWords(numbers...))
		b = append(b, one...)
	}
	return b
}

// levelCounts are how many nodes each level has, from the leaves up.
func levelCounts(n int) []int {
	l := []int{max(1, (n+fan-1)/fan)}
	for l[len(l)-1] > 1 {
		l = append(l, (l[len(l)-1]+fan-1)/fan)
	}
	return l
}

// wantBytes lays a tree out from the root down: which extents a node has beneath it, and which number, is reckoned by its level and its place there alone. The extents need not be right.
func wantBytes(room int, l []api.Extent) []byte {
	counts := levelCounts(len(l))
	var list [][]int
	for level := len(counts) - 1; level >= 0; level-- {
		span := 1 // extents beneath a pair
		for range level {
			span *= fan
		}
		below := len(list) + counts[level]
		for k := range counts[level] {
			words := []int{0}
			for p := range fan {
				at := (k*fan + p) * span
				if at >= len(l) {
					break
				}
				words[0] += 2
				if level == 0 {
					words = append(words, l[at].At, 4*l[at].Size+l[at].Use)
				} else {
					words = append(words, l[at].At, below+k*fan+p)
				}
			}
			if level == 0 {
				words[0]++
			}
			list = append(list, words)
		}
	}
	b := nodes(list...)
	return append(b, make([]byte, max(0, room*nodeSize-len(b)))...)
}

func writes(t *testing.T, pages, room int, l []api.Extent, want []byte) {
	t.Helper()
	if b, e := Write(pages, room, l); e != api.OK || !bytes.Equal(b, want) {
		t.Fatalf("Write(%d, %d, %v) = %v, %v; want %v", pages, room, l, b, e, want)
	}
}

func notWritten(t *testing.T, pages, room int, l []api.Extent, want api.Errno) {
	t.Helper()
	if b, e := Write(pages, room, l); e != want || len(b) != 0 {
		t.Fatalf("Write(%d, %d, %v) = %d bytes, %v; want none, %v", pages, room, l, len(b), e, want)
	}
}

// chapterRow are the extents of the chapter's example.
func chapterRow() []api.Extent { return row(0, 1, 1, 1, 2, 2, 3, 1, 0) }

// twoLevels are eight extents of ten pages, and the bytes of their tree.
func twoLevels() ([]api.Extent, []byte) {
	l := row(0, 1, 1, 1, 1, 1, 2, 2, 2, 4, 1, 0, 5, 1, 1, 6, 1, 1, 7, 1, 2, 8, 2, 0)
	return l, nodes(
		[]int{4, 0, 1, 8, 2},
		[]int{15, 0, 5, 1, 5, 2, 10, 4, 4, 5, 5, 6, 5, 7, 6},
		[]int{3, 8, 8},
	)
}

// threeLevels are 50 slabs, and the bytes of their tree.
func threeLevels() ([]api.Extent, []byte) {
	var l []api.Extent
	var leaves [][]int
	for leaf := range 7 {
		words := []int{15}
		for k := range 7 {
			l = append(l, api.Extent{At: leaf*7 + k, Size: 1, Use: 1})
			words = append(words, leaf*7+k, 5)
		}
		leaves = append(leaves, words)
	}
	l = append(l, api.Extent{At: 49, Size: 1, Use: 1})
	inner := [][]int{
		{4, 0, 1, 49, 2},
		{14, 0, 3, 7, 4, 14, 5, 21, 6, 28, 7, 35, 8, 42, 9},
		{2, 49, 10},
	}
	return l, nodes(append(append(inner, leaves...), []int{3, 49, 5})...)
}

func TestWriteByHand(t *testing.T) {
	writes(t, 0, 1, nil, nodes([]int{1}))
	writes(t, 0, 1, []api.Extent{}, nodes([]int{1}))
	writes(t, 0, 2, nil, nodes([]int{1}, nil))
	writes(t, 1, 1, row(0, 1, 0), nodes([]int{3, 0, 4}))
	writes(t, 4, 1, chapterRow(), nodes([]int{7, 0, 5, 1, 10, 3, 4}))
	writes(t, 4, 3, chapterRow(), nodes([]int{7, 0, 5, 1, 10, 3, 4}, nil, nil))
	writes(t, 64, 1, row(0, 64, 2), nodes([]int{3, 0, 258}))
	l, b := twoLevels()
	writes(t, 10, 3, l, b)
	writes(t, 10, 4, l, append(b, nodes(nil)...))
	l, b = threeLevels()
	writes(t, 50, 11, l, b)
	writes(t, 50, 13, l, append(b, nodes(nil, nil)...))
}

// TestWriteOfEachCount: each number of extents, in each room that may be.
func TestWriteOfEachCount(t *testing.T) {
	for n := range mostPages + 1 {
		pages, l := countRow(n)
		for room := int(wantNodes(n)); room <= mostNodes; room++ {
			writes(t, pages, room, l, wantBytes(room, l))
		}
	}
}

func TestWriteOfRolledExtents(t *testing.T) {
	roll := dice(143)
	for pages := range mostPages + 1 {
		for range 20 {
			l, _ := wantFrom(rolledKinds(roll, pages))
			need := int(wantNodes(len(l)))
			room := need + roll(mostNodes-need+1)
			writes(t, pages, room, l, wantBytes(room, l))
		}
	}
}

// farRooms are rooms that are too little or too much for whatever tree. Those past 2^32 have a right one in their lower half.
func farRooms() []int {
	return []int{math.MinInt, math.MinInt + 1, math.MinInt + mostNodes, math.MinInt / 128, -1 << 32, -1<<32 + 13, -13, -1, 0, 14, 15, 26, 64, 128, 1 << 31, 1<<32 + 13, 1<<57 + 13, 1<<62 + 13, math.MaxInt / 128, math.MaxInt - 1, math.MaxInt}
}

func TestWriteOfWrongRoom(t *testing.T) {
	for n := range mostPages + 1 {
		pages, l := countRow(n)
		for _, room := range append(farRooms(), int(wantNodes(n))-1) {
			notWritten(t, pages, room, l, api.ErrLong)
		}
	}
}

// TestWriteOfWrongExtents: whatever the room is, it is told that they are not right.
func TestWriteOfWrongExtents(t *testing.T) {
	for _, one := range wrongRows() {
		for _, room := range append(farRooms(), 1, 2, 3, 11, 12, 13) {
			notWritten(t, one.pages, room, one.l, api.ErrArg)
		}
	}
	for _, n := range counts() {
		pages, l := countRow(n)
		for room := range mostNodes + 2 {
			notWritten(t, pages-1, room, l, api.ErrArg)
			notWritten(t, pages+1, room, l, api.ErrArg)
		}
	}
}
