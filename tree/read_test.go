package tree

import (
	"bytes"
	"encoding/binary"
	"math"
	"slices"
	"testing"

	"joist/api"
)

// P14.3, Read

func reads(t *testing.T, pages int, b []byte, want []api.Extent) {
	t.Helper()
	if l, is := Read(pages, b); !is || !slices.Equal(l, want) {
		t.Fatalf("Read(%d, %v) = %v, %v; want %v", pages, b, l, is, want)
	}
}

// notRead: neither Read nor Find takes them.
func notRead(t *testing.T, pages int, b []byte) {
	t.Helper()
	if l, is := Read(pages, b); is || len(l) != 0 {
		t.Fatalf("Read(%d, %.2000v) = %v, %v; want none, false", pages, b, l, is)
	}
	for _, page := range []int{-1, 0, pages - 1, pages} {
		notFound(t, pages, b, page)
	}
}

// word is a word of b, whatever its number.
func word(b []byte, at int) uint64 { return binary.LittleEndian.Uint64(b[8*at:]) }

// known is the tests' own reader: it goes through the tree as its pairs lead, and holds what it came by against the bytes that such a tree has.
func known(pages int, b []byte) ([]api.Extent, bool) {
	room := len(b) / nodeSize
	if len(b)%nodeSize != 0 || room < 1 || room > mostNodes {
		return nil, false
	}
	var l []api.Extent
	row := []uint64{0}
	for steps := 0; len(row) > 0; steps++ {
		number := row[0]
		row = row[1:]
		if steps > mostNodes || number >= uint64(room) {
			return nil, false
		}
		at := int(number) * 16
		pairs := word(b, at) / 2
		if pairs > fan {
			return nil, false
		}
		for k := range int(pairs) {
			one, two := word(b, at+1+2*k), word(b, at+2+2*k)
			if word(b, at)%2 == 0 {
				row = append(row, two)
			} else if one > mostPages || two > 4*mostPages+3 {
				return nil, false
			} else {
				l = append(l, api.Extent{At: int(one), Size: int(two / 4), Use: int(two % 4)})
			}
		}
	}
	if !wantRight(pages, l) || !bytes.Equal(b, wantBytes(room, l)) {
		return nil, false
	}
	return l, true
}

// lookRead holds Read against the tests' own reader; it tells whether they were a tree's.
func lookRead(t *testing.T, pages int, b []byte) bool {
	t.Helper()
	l, is := known(pages, b)
	if !is {
		notRead(t, pages, b)
		return false
	}
	reads(t, pages, b, l)
	return true
}

func TestReadByHand(t *testing.T) {
	reads(t, 0, nodes([]int{1}), nil)
	reads(t, 0, nodes([]int{1}, nil, nil), nil)
	reads(t, 1, nodes([]int{3, 0, 6}), row(0, 1, 2))
	reads(t, 4, nodes([]int{7, 0, 5, 1, 10, 3, 4}), chapterRow())
	reads(t, 4, nodes([]int{7, 0, 5, 1, 10, 3, 4}, nil), chapterRow())
	reads(t, 64, nodes([]int{3, 0, 256}), row(0, 64, 0))
	l, b := twoLevels()
	reads(t, 10, b, l)
	reads(t, 10, append(b, make([]byte, 10*nodeSize)...), l)
	l, b = threeLevels()
	reads(t, 50, b, l)
	reads(t, 50, append(b, make([]byte, 2*nodeSize)...), l)
}

// TestReadOfEachCount: each number of extents, in each room that may be, and in ones that may not.
func TestReadOfEachCount(t *testing.T) {
	for n := range mostPages + 1 {
		pages, l := countRow(n)
		need := int(wantNodes(n))
		for room := need; room <= mostNodes; room++ {
			reads(t, pages, wantBytes(room, l), l)
		}
		b := wantBytes(mostNodes+1, l)
		notRead(t, pages, b)
		notRead(t, pages, append(b, make([]byte, 20*nodeSize)...))
		for room := range need {
			notRead(t, pages, b[:room*nodeSize])
		}
	}
}

func TestReadOfWrongLengths(t *testing.T) {
	notRead(t, 0, nil)
	notRead(t, 0, []byte{})
	notRead(t, 1, nil)
	notRead(t, 64, nil)
	for _, n := range counts() {
		pages, l := countRow(n)
		need := int(wantNodes(n)) * nodeSize
		b := wantBytes(mostNodes+1, l)
		for size := range len(b) + 1 {
			if is := lookRead(t, pages, b[:size]); is != (size%nodeSize == 0 && size >= need && size <= mostNodes*nodeSize) {
				t.Fatalf("%d extents in %d bytes: %v", n, size, is)
			}
		}
	}
}

func TestReadOfOtherPages(t *testing.T) {
	for _, n := range counts() {
		pages, l := countRow(n)
		b := wantBytes(mostNodes, l)
		for p := -2; p <= mostPages+2; p++ {
			if p == pages {
				reads(t, p, b, l)
			} else {
				notRead(t, p, b)
			}
		}
		for _, p := range farPages() {
			notRead(t, p, b)
		}
	}
}

// TestReadOfWrongExtents: the bytes that a tree of them would have.
func TestReadOfWrongExtents(t *testing.T) {
	for _, one := range wrongRows() {
		if len(one.l) <= 70 {
			notRead(t, one.pages, wantBytes(0, one.l))
			notRead(t, one.pages, wantBytes(mostNodes, one.l))
		}
	}
}

// TestWrongBytesByHand: each is a tree that is right, but for what is said of it.
func TestWrongBytesByHand(t *testing.T) {
	full := []int{15, 0, 5, 1, 5, 2, 10, 4, 4, 5, 5, 6, 5, 7, 6}
	for what, one := range map[string]struct {
		pages int
		b     []byte
	}{
		"nothing but 0":                      {0, nodes(nil)},
		"nothing but 0, of one page":         {1, nodes(nil)},
		"a root without pairs, no leaf":      {0, nodes([]int{0}, []int{1})},
		"an empty leaf behind":               {0, nodes([]int{1}, []int{1})},
		"an empty leaf behind an extent":     {1, nodes([]int{3, 0, 5}, []int{1})},
		"an empty leaf ahead":                {1, nodes([]int{1}, []int{3, 0, 5})},
		"a leaf ahead of the root":           {1, nodes([]int{3, 0, 5}, []int{2, 0, 0})},
		"a root above one leaf":              {1, nodes([]int{2, 0, 1}, []int{3, 0, 5})},
		"a root above an empty leaf":         {0, nodes([]int{2, 0, 1}, []int{1})},
		"the root is said to be no leaf":     {1, nodes([]int{2, 0, 5})},
		"a pair too few":                     {2, nodes([]int{3, 0, 5, 1, 5})},
		"a pair too many":                    {2, nodes([]int{7, 0, 5, 1, 5})},
		"a pair too many, of one page less":  {1, nodes([]int{5, 0, 5})},
		"eight pairs":                        {2, nodes([]int{17, 0, 5, 1, 5})},
		"eight pairs, on into the next node": {8, nodes([]int{17, 0, 5, 1, 5, 2, 5, 3, 5, 4, 5, 5, 5, 6, 5, 7}, []int{5})},
		"as many pairs as can be said":       {2, nodes([]int{api.MaxWord, 0, 5, 1, 5})},
		"a head above MaxWord":               {2, nodes([]int{1<<62 + 5, 0, 5, 1, 5})},
		"a head below 0":                     {2, nodes([]int{math.MinInt + 5, 0, 5, 1, 5})},
		"a head of all bits":                 {2, nodes([]int{-1, 0, 5, 1, 5})},
		"an At above MaxWord":                {2, nodes([]int{5, 1 << 62, 5, 1, 5})},
		"an At below 0":                      {2, nodes([]int{5, math.MinInt, 5, 1, 5})},
		"the greatest At":                    {2, nodes([]int{5, 0, 5, api.MaxWord, 5})},
		"a Size above MaxWord":               {2, nodes([]int{5, 0, 5, 1, 1<<62 + 5})},
		"a Size below 0":                     {2, nodes([]int{5, 0, 5, 1, math.MinInt + 5})},
		"the greatest Size":                  {2, nodes([]int{5, 0, 5, 1, api.MaxWord - 1})},
		"a Size of 0":                        {2, nodes([]int{5, 0, 9, 2, 0})},
		"a Use of 3":                         {2, nodes([]int{5, 0, 5, 1, 7})},
		"a slab of two pages":                {2, nodes([]int{3, 0, 9})},
		"two free ones":                      {2, nodes([]int{5, 0, 4, 1, 4})},
		"two pairs the wrong way round":      {2, nodes([]int{5, 1, 5, 0, 5})},
		"a word behind":                      {2, nodes([]int{5, 0, 5, 1, 5, 1})},
		"the last word":                      {2, nodes([]int{5, 0, 5, 1, 5, 0, 0, 0, 0, 0, 0, 0, 0, 0, 0, 1})},
		"the last word behind seven pairs":   {8, nodes([]int{15, 0, 5, 1, 5, 2, 10, 4, 5, 5, 5, 6, 5, 7, 5, 1})},
		"a word in the room behind":          {2, nodes([]int{5, 0, 5, 1, 5}, nil, []int{0, 0, 1})},
		"the very last word":                 {2, nodes([]int{5, 0, 5, 1, 5}, []int{0, 0, 0, 0, 0, 0, 0, 0, 0, 0, 0, 0, 0, 0, 0, 1})},
		"the room's last word is none":       {2, nodes([]int{5, 0, 5, 1, 5}, []int{0, 0, 0, 0, 0, 0, 0, 0, 0, 0, 0, 0, 0, 0, 0, 1 << 62})},

		"two levels: a root that leads to itself":    {10, nodes([]int{4, 0, 0, 8, 2}, full, []int{3, 8, 8})},
		"two levels: both pairs lead to the root":    {10, nodes([]int{4, 0, 0, 8, 0}, full, []int{3, 8, 8})},
		"two levels: both pairs lead to one leaf":    {10, nodes([]int{4, 0, 1, 8, 1}, full, []int{3, 8, 8})},
		"two levels: numbers the wrong way round":    {10, nodes([]int{4, 0, 2, 8, 1}, full, []int{3, 8, 8})},
		"two levels: leaves the wrong way round":     {10, nodes([]int{4, 0, 2, 8, 1}, []int{3, 8, 8}, full)},
		"two levels: a number past the tree":         {10, nodes([]int{4, 0, 1, 8, 3}, full, []int{3, 8, 8}, nil)},
		"two levels: a number past the room":         {10, nodes([]int{4, 0, 1, 8, 3}, full, []int{3, 8, 8})},
		"two levels: the greatest number":            {10, nodes([]int{4, 0, 1, 8, api.MaxWord}, full, []int{3, 8, 8})},
		"two levels: a number that is no word":       {10, nodes([]int{4, 0, 1, 8, -1}, full, []int{3, 8, 8})},
		"two levels: a first page too small":         {10, nodes([]int{4, 0, 1, 7, 2}, full, []int{3, 8, 8})},
		"two levels: a first page too great":         {10, nodes([]int{4, 0, 1, 9, 2}, full, []int{3, 8, 8})},
		"two levels: a first page that is not 0":     {10, nodes([]int{4, 1, 1, 8, 2}, full, []int{3, 8, 8})},
		"two levels: a root with a pair too few":     {10, nodes([]int{2, 0, 1}, full, []int{3, 8, 8})},
		"two levels: a root with a pair too many":    {10, nodes([]int{6, 0, 1, 8, 2}, full, []int{3, 8, 8})},
		"two levels: a root that is said to be leaf": {10, nodes([]int{5, 0, 1, 8, 2}, full, []int{3, 8, 8})},
		"two levels: a first leaf that is none":      {10, nodes([]int{4, 0, 1, 8, 2}, []int{14, 0, 5, 1, 5, 2, 10, 4, 4, 5, 5, 6, 5, 7, 6}, []int{3, 8, 8})},
		"two levels: a last leaf that is none":       {10, nodes([]int{4, 0, 1, 8, 2}, full, []int{2, 8, 8})},
		"two levels: an empty leaf behind":           {10, nodes([]int{6, 0, 1, 8, 2, 10, 3}, full, []int{3, 8, 8}, []int{1})},
		"two levels: an empty last leaf":             {8, nodes([]int{4, 0, 1, 8, 2}, full, []int{1})},
		"two levels: no root":                        {10, nodes(full, []int{3, 8, 8})},
		"two levels: the root behind":                {10, nodes(full, []int{3, 8, 8}, []int{4, 0, 0, 8, 1})},
		"two levels: a gap of a node":                {10, nodes([]int{4, 0, 1, 8, 3}, full, nil, []int{3, 8, 8})},
		"two levels: not filled from the front":      {10, nodes([]int{4, 0, 1, 7, 2}, []int{13, 0, 5, 1, 5, 2, 10, 4, 4, 5, 5, 6, 5}, []int{5, 7, 6, 8, 8})},
		"two levels: one would do":                   {2, nodes([]int{4, 0, 1, 1, 2}, []int{3, 0, 5}, []int{3, 1, 5})},
	} {
		t.Run(what, func(t *testing.T) {
			if _, is := known(one.pages, one.b); is {
				t.Fatal("they are right")
			}
			notRead(t, one.pages, one.b)
		})
	}
}

// TestTurnedBytes: trees with one byte turned, at each place. Some are those of other extents, where a Use is turned.
func TestTurnedBytes(t *testing.T) {
	trees := 0
	for n, by := range map[int][]byte{0: allTurns(), 1: allTurns(), 7: allTurns(), 8: {1, 2, 3, 4, 5, 6, 7, 8, 13, 16, 32, 64, 128, 255}, 49: {1, 3, 128, 255}, 50: {1, 2, 4, 128}, 64: {1, 3, 9, 128}} {
		pages, l := countRow(n)
		for _, room := range []int{int(wantNodes(n)), min(int(wantNodes(n))+1, mostNodes)} {
			b := wantBytes(room, l)
			for at := range b {
				for _, turn := range by {
					b[at] ^= turn
					if lookRead(t, pages, b) {
						trees++
					}
					b[at] ^= turn
				}
			}
			reads(t, pages, b, l)
		}
	}
	if trees < 20 {
		t.Errorf("%d trees were those of other extents", trees)
	}
}

func allTurns() []byte {
	var l []byte
	for turn := 1; turn < 256; turn++ {
		l = append(l, byte(turn))
	}
	return l
}

// TestTurnedWords: trees with one word turned into another one that stands in some tree, at each place, in all room.
func TestTurnedWords(t *testing.T) {
	for _, n := range counts() {
		pages, l := countRow(n)
		b := wantBytes(mostNodes, l)
		for at := range len(b) / 8 {
			was := slices.Clone(b[8*at : 8*at+8])
			for _, to := range []int{0, 1, 2, 3, 4, 5, 6, 14, 15, 16, 17, 1 << 62, -1} {
				copy(b[8*at:], ofWords(to))
				lookRead(t, pages, b)
			}
			copy(b[8*at:], was)
		}
	}
}

// TestRolledWords: small words in all places.
func TestRolledWords(t *testing.T) {
	roll := dice(144)
	trees := 0
	for range 60000 {
		var list [][]int
		for range 1 + roll(2) {
			list = append(list, []int{roll(6), 0, roll(12), 1 + roll(2), roll(12)})
		}
		if list[0][0] < 4 {
			clear(list[0][3:])
		}
		if len(list) > 1 && roll(2) == 0 {
			clear(list[1])
		}
		if lookRead(t, roll(4), nodes(list...)) {
			trees++
		}
	}
	if trees < 100 {
		t.Errorf("%d were trees", trees)
	}
}
