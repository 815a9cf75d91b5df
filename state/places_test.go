package state

import (
	"math"
	"testing"

	"joist/api"
)

// P18.1: where objects lie in a state that is right

func four(mode, base int) api.State { return bare(small(), mode, base) }

func TestPlacesOfFormatOne(t *testing.T) {
	s := four(modeOne, 0)
	for what, one := range map[string][]int{
		"at the first word":                {0, 0, 1},
		"the last word is its last one":    {0, 124, 16},
		"a greater one, likewise":          {0, 120, 48},
		"all of the heap":                  {0, 0, 1008},
		"one behind the other":             {0, 0, 1, 1, 4, 16, 2, 8, 17, 3, 16, 880},
		"against the slots' order":         {0, 100, 9, 1, 80, 17, 2, 8, 3, 3, 0, 16},
		"one behind the other, against it": {0, 12, 1, 1, 8, 1, 2, 4, 1, 3, 0, 1},
		"across pages":                     {2, 28, 100, 0, 60, 300},
	} {
		right(t, what, laid(s, false, one...))
	}
	for what, one := range map[string][]int{
		"a word past the end":          {0, 124, 17},
		"past the end by much":         {0, 124, 2048},
		"at the end":                   {0, 128, 1},
		"behind the end":               {0, 132, 1},
		"at the last word that may be": {0, 2044, 1},
		"at MaxPages times PageWords":  {0, 2048, 1},
		"too great for the heap":       {0, 0, 1009},
		"no multiple of four":          {0, 2, 1},
		"odd":                          {0, 5, 1},
		"below 0":                      {0, -4, 1},
		"below 0, reaching up":         {0, -4, 100},
		"overlap at the last words":    {0, 0, 17, 1, 4, 1},
		"overlap at the first words":   {0, 4, 1, 1, 0, 17},
		"overlap of far slots":         {0, 0, 17, 1, 40, 1, 2, 80, 1, 3, 4, 1},
		"one within another":           {0, 0, 500, 3, 8, 1},
		"the same":                     {0, 8, 1, 1, 8, 1},
		"the same, of other lengths":   {0, 8, 100, 1, 8, 1},
		"the greatest number":          {0, math.MaxInt, 1},
		"the least number":             {0, math.MinInt, 1},
		"one that comes round":         {0, math.MaxInt - 3, 1},
	} {
		wrong(t, what, laid(s, false, one...))
	}
}

// TestEachWordOfFormatOne: a block of each length at each word.
func TestEachWordOfFormatOne(t *testing.T) {
	for _, n := range []int{1, 15, 16, 17, 48, 49, 1008, 1009} {
		for at := -8; at <= 140; at++ {
			for _, base := range []int{0, 1, 3, 4} {
				look(t, laid(four(modeUp, base), false, 1, at, n))
				look(t, laid(four(modeDown, base), false, 1, at, n))
			}
			look(t, laid(four(modeOne, 0), false, 1, at, n))
			wrong(t, "format 1 in ModeTwo", laid(four(modeTwo, 4), false, 1, at, n))
		}
	}
}

func TestPlacesOfFormatTwo(t *testing.T) {
	s := four(modeTwo, 4)
	for what, one := range map[string][]int{
		"the first cell":             {0, 4, 1},
		"the last cell":              {0, 96 + 30, 16},
		"cells of one page":          {0, 4, 16, 1, 6, 9, 2, 30, 1, 3, 8, 2},
		"cells against the slots":    {0, 30, 1, 1, 8, 16, 2, 6, 3, 3, 4, 1},
		"pages of each a class":      {0, 4, 24, 1, 36, 56, 2, 68, 120, 3, 100, 1},
		"a class in two pages":       {0, 4, 120, 1, 68, 81},
		"a whole page":               {0, 32, 121},
		"whole pages":                {0, 0, 512, 1, 64, 300},
		"all pages":                  {0, 0, 1024},
		"the last page":              {0, 96, 256},
		"whole pages beside cells":   {0, 96, 121, 1, 32, 512, 2, 4, 40, 3, 9, 25},
		"the last pages, then cells": {0, 64, 257, 3, 46, 57, 2, 36, 80},
	} {
		right(t, what, laid(s, true, one...))
	}
	for what, one := range map[string][]int{
		"in the head":                    {0, 0, 1},
		"in the head's last word":        {0, 3, 1},
		"between cells":                  {0, 5, 1},
		"another class's cell":           {0, 6, 17},
		"behind the last cell":           {0, 25, 25},
		"past the last page":             {0, 128 + 4, 1},
		"a large one past the last page": {0, 128, 121},
		"one that reaches past it":       {0, 96, 257},
		"too many pages":                 {0, 0, 1025},
		"a large one in a page's midst":  {0, 4, 121},
		"below 0":                        {0, -28, 1},
		"a large one below 0":            {0, -32, 121},
		"one cell is two objects'":       {0, 4, 1, 1, 4, 16},
		"two classes in a page":          {0, 4, 16, 1, 10, 17},
		"cells in a large one's page":    {0, 32, 121, 1, 36, 16},
		"cells in its later page":        {0, 0, 300, 1, 36, 16},
		"one page is two large ones'":    {0, 0, 300, 1, 32, 300},
		"the same":                       {0, 32, 200, 3, 32, 200},
		"the greatest number":            {0, math.MaxInt, 1},
		"the least number":               {0, math.MinInt, 200},
		"at MaxPages times PageWords":    {0, 2048, 200},
	} {
		wrong(t, what, laid(s, true, one...))
	}
}

// TestEachWordOfFormatTwo: an object of each class and number of pages at each word.
func TestEachWordOfFormatTwo(t *testing.T) {
	for _, n := range []int{1, 16, 17, 24, 25, 40, 41, 56, 57, 80, 81, 120, 121, 256, 257, 1024, 1025} {
		for at := -36; at <= 170; at++ {
			for _, base := range []int{0, 1, 3, 4} {
				look(t, laid(four(modeUp, base), true, 2, at, n))
				look(t, laid(four(modeDown, base), true, 2, at, n))
			}
			look(t, laid(four(modeTwo, 4), true, 2, at, n))
			wrong(t, "format 2 in ModeOne", laid(four(modeOne, 0), true, 2, at, n))
		}
	}
}

// TestModesHaveTheirFormat: what is right in one mode is not in the other, whatever its Two says.
func TestModesHaveTheirFormat(t *testing.T) {
	right(t, "format 1 in ModeOne", laid(four(modeOne, 0), false, 0, 32, 200))
	right(t, "format 2 in ModeTwo", laid(four(modeTwo, 4), true, 0, 32, 200))
	wrong(t, "format 2 in ModeOne", laid(four(modeOne, 0), true, 0, 32, 200))
	wrong(t, "format 1 in ModeTwo", laid(four(modeTwo, 4), false, 0, 32, 200))
	wrong(t, "ModeOne with ModeTwo's base", laid(four(modeOne, 4), true, 0, 32, 200))
	wrong(t, "ModeTwo with ModeOne's base", laid(four(modeTwo, 0), false, 0, 32, 200))
	wrong(t, "both in ModeOne", laid(laid(four(modeOne, 0), false, 0, 32, 200), true, 1, 4, 1))
	wrong(t, "both in ModeTwo", laid(laid(four(modeTwo, 4), true, 0, 32, 200), false, 1, 0, 1))
}

func TestPlacesOnTheWay(t *testing.T) {
	for _, mode := range []int{modeUp, modeDown} {
		s := four(mode, 2)
		right(t, "none", s)
		right(t, "only format 1", laid(s, false, 0, 64, 1, 1, 100, 17))
		right(t, "only format 2", laid(s, true, 0, 4, 1, 1, 32, 256))
		right(t, "both", laid(laid(s, true, 0, 4, 1, 1, 32, 256), false, 2, 64, 16, 3, 124, 1))
		right(t, "both, against the slots", laid(laid(s, true, 3, 4, 1, 1, 32, 256), false, 2, 64, 16, 0, 124, 1))
		right(t, "all of both", laid(laid(s, true, 3, 0, 512), false, 0, 64, 496))
		wrong(t, "format 1 below the border", laid(s, false, 0, 60, 1))
		wrong(t, "format 1 across the border", laid(s, false, 0, 60, 17))
		wrong(t, "format 1 at the first word", laid(s, false, 0, 0, 1))
		wrong(t, "format 1 past the last page", laid(s, false, 0, 128, 1))
		wrong(t, "format 2 behind the border", laid(s, true, 0, 68, 1))
		wrong(t, "a page of format 2 behind the border", laid(s, true, 0, 64, 121))
		wrong(t, "format 2 across the border", laid(s, true, 0, 32, 257))
		wrong(t, "each at the other's place", laid(laid(s, false, 0, 4, 1), true, 1, 68, 1))
		wrong(t, "one wrong beside right ones", laid(laid(s, true, 0, 4, 1, 1, 32, 256), false, 2, 64, 16, 3, 64, 1))
		right(t, "base 0", laid(four(mode, 0), false, 0, 0, 1))
		wrong(t, "base 0, format 2", laid(four(mode, 0), true, 0, 4, 1))
		right(t, "base Pages", laid(four(mode, 4), true, 0, 100, 1))
		wrong(t, "base Pages, format 1", laid(four(mode, 4), false, 0, 124, 1))
	}
}

// TestGreatestHeap: at the ends of MaxPages pages, with all slots live.
func TestGreatestHeap(t *testing.T) {
	most := api.Shape{Pages: 64, Slots: 32, Roots: 8, Room: 1895}
	one, two := bare(most, modeOne, 0), bare(most, modeTwo, 64)
	for k := range 32 {
		one = laid(one, false, k, 2044-4*k, 16)
		two = laid(two, true, k, 64*(31-k)+32*(k%2), 256)
	}
	right(t, "ModeOne", one)
	right(t, "ModeTwo", two)
	right(t, "MaxLen at the end", laid(bare(most, modeOne, 0), false, 31, 2048-260, lastLen))
	right(t, "MaxLen in the last pages", laid(bare(most, modeTwo, 64), true, 31, 2048-256, lastLen))
	wrong(t, "MaxLen past the end", laid(bare(most, modeOne, 0), false, 31, 2048-256, lastLen))
	wrong(t, "MaxLen past the last page", laid(bare(most, modeTwo, 64), true, 31, 2048-224, lastLen))
	wrong(t, "at the end", laid(bare(most, modeOne, 0), false, 31, 2048, 1))
	wrong(t, "behind the last page", laid(bare(most, modeTwo, 64), true, 31, 2048, 121))
	for k := range 31 {
		wrong(t, "twice", laid(one, false, 31, 2044-4*k, 16))
		wrong(t, "twice", laid(two, true, 31, 64*(31-k)+32*(k%2), 256))
	}
}

// rolled are right states of all modes, with as many objects as came to lie right by chance; some slots are spent, some roots have names.
func rolled(seed uint32, times int) []api.State {
	roll := dice(seed)
	var out []api.State
	for range times {
		for _, shape := range shapes() {
			for _, mode := range modes() {
				base := [5]int{modeTwo: shape.Pages, modeUp: roll(shape.Pages + 1), modeDown: roll(shape.Pages + 1)}[mode]
				out = append(out, rolledState(roll, bare(shape, mode, base)))
			}
		}
	}
	return out
}

func rolledState(roll func(int) int, s api.State) api.State {
	for k := range s.Slots {
		s.Slots[k].Gen = roll(3) * roll(200)
		if roll(5) == 0 {
			s.Slots[k].Gen = lastGen
		}
		for range roll(6) {
			two := roll(s.Shape.Pages) < s.Base
			at := roll(pageWords*s.Shape.Pages/2) * 2
			n := 1 + roll(1+roll(lastLen))
			if two && roll(3) > 0 {
				n = 1 + roll(lastSmall)
			}
			if more := with(s, k, two, at, n); isRight(more) {
				s = more
				break
			}
		}
	}
	for k := range s.Roots {
		if roll(2) == 0 {
			s.Roots[k] = api.Root{Name: string(rune('a'+k)) + "-é"[:1+2*roll(2)], To: api.Handle{Index: roll(32), Gen: roll(65536)}}
		}
	}
	return s
}

func TestRolledStates(t *testing.T) {
	live := [5]int{}
	for _, s := range rolled(1, 20) {
		right(t, "rolled", s)
		for _, slot := range s.Slots {
			if slot.Live {
				live[s.Mode]++
			}
		}
	}
	for _, mode := range modes() {
		if live[mode] < 100 {
			t.Errorf("mode %d: %d objects in all", mode, live[mode])
		}
	}
}

// TestTurnedStates: one number of a right state becomes another, or two slots' parts change places; some stay right.
func TestTurnedStates(t *testing.T) {
	roll := dice(2)
	stay := 0
	near := append(far(), 0, 1, 2, 3, 4, 5, 8, 16, 31, 32, 33, 64)
	for _, was := range rolled(3, 10) {
		for range 60 {
			s := own(was)
			k := roll(len(s.Slots))
			of := []*int{&s.Slots[k].At, &s.Slots[k].Len, &s.Slots[k].Gen, &s.Base, &s.Mode, &s.Shape.Pages, &s.Shape.Slots, &s.Shape.Roots}[roll(8)]
			switch roll(6) {
			case 0:
				*of = near[roll(len(near))]
			case 1:
				*of += roll(9) - 4
			case 2:
				*of += 32 * (roll(5) - 2)
			case 3:
				s.Slots[k].Two = !s.Slots[k].Two
			case 4:
				s.Slots[k].Live = !s.Slots[k].Live
			default:
				i := roll(len(s.Slots))
				s.Slots[k], s.Slots[i] = s.Slots[i], s.Slots[k]
				s.Data[k], s.Data[i] = s.Data[i], s.Data[k]
			}
			if look(t, s) {
				stay++
			}
		}
	}
	if stay < 500 {
		t.Errorf("%d turned states are right", stay)
	}
}
