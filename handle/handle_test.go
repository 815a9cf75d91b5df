package handle

import (
	"math"
	"strings"
	"testing"

	"joist/api"
)

// The limits, written out: the tests must not lean on what they hold the package against.
const (
	slots   = 32
	lastGen = 65535
	last    = slots * 65536 // the greatest number
)

// dice are numbers without an order that anybody sees, but the same each time.
func dice(seed uint32) func(n int) int {
	return func(n int) int {
		seed = seed*1664525 + 1013904223
		return int(seed>>8) % n
	}
}

// isRight is the chapter's definition, word by word.
func isRight(h api.Handle) bool {
	return 0 <= h.Index && h.Index <= slots-1 && 0 <= h.Gen && h.Gen <= lastGen
}

// digits is a number from 0 on in base 10, made by hand.
func digits(n int) string {
	s := ""
	for more := true; more; more = n > 0 {
		s, n = string([]byte{byte('0' + n%10)})+s, n/10
	}
	return s
}

func written(h api.Handle) string {
	return digits(h.Index) + "." + digits(h.Gen)
}

// number tells what a row of digits says, if it is just what would be written for it, and no more than limit.
func number(s string, limit int) (int, bool) {
	n := 0
	for i := 0; i < len(s) && i < 6; i++ {
		n = n*10 + int(s[i]) - '0'
	}
	if n < 0 || n > limit || digits(n) != s {
		return 0, false
	}
	return n, true
}

// parsed is what a text says, if it is a handle's.
func parsed(s string) (api.Handle, bool) {
	front, back, is := strings.Cut(s, ".")
	if !is {
		return api.Handle{}, false
	}
	index, first := number(front, slots-1)
	gen, second := number(back, lastGen)
	if !first || !second {
		return api.Handle{}, false
	}
	return api.Handle{Index: index, Gen: gen}, true
}

// goodIndexes and goodGens are within the limits, badIndexes and badGens beyond them.
func goodIndexes() []int { return []int{0, 1, 2, 9, 10, 11, 15, 16, 30, 31} }

func goodGens() []int {
	return []int{0, 1, 2, 9, 10, 31, 32, 99, 100, 999, 1000, 9999, 10000, 32767, 32768, 65534, 65535}
}

func badIndexes() []int {
	return []int{-1, -2, -31, -32, 32, 33, 64, 65535, 65536, 1 << 31, 1 << 32, 1<<32 + 1, -1 << 32, 1 << 48, 1 << 62, math.MaxInt - 1, math.MaxInt, math.MinInt, math.MinInt + 1}
}

func badGens() []int {
	return []int{-1, -2, -65535, -65536, 65536, 65537, 131071, 1 << 31, 1 << 32, 1<<32 + 1, -1 << 32, 1 << 62, math.MaxInt - 1, math.MaxInt, math.MinInt, math.MinInt + 1}
}

func cross(indexes, gens []int) []api.Handle {
	var l []api.Handle
	for _, i := range indexes {
		for _, g := range gens {
			l = append(l, api.Handle{Index: i, Gen: g})
		}
	}
	return l
}

func goodHandles() []api.Handle {
	return cross(goodIndexes(), goodGens())
}

func badHandles() []api.Handle {
	l := cross(badIndexes(), goodGens())
	l = append(l, cross(goodIndexes(), badGens())...)
	return append(l, cross(badIndexes(), badGens())...)
}

func allHandles() []api.Handle {
	return append(goodHandles(), badHandles()...)
}

func badCodes() []int {
	return []int{0, -1, -2, -65535, -65536, -65537, -last, last + 1, last + 2, last + 65536, 2 * last, 1 << 31, 1 << 32, 1<<32 + 1, 1 << 62, math.MaxInt - 1, math.MaxInt, math.MinInt, math.MinInt + 1}
}

// badTexts are no handle's: the shapes that are wrong, then what is beyond the limits.
func badTexts() []string {
	l := []string{"", ".", "..", "...", "1", "0", "31", "65535", "12", "1.", ".1", "0.", ".0", "1..2", "1.2.", ".1.2", "1.2.3", "0.0.0", "1.2.3.4",
		"01.0", "00.0", "1.00", "1.02", "0.00", "001.2", "1.002", "1.065535", "031.0", "1.0000000000000000000000000000001", "00000000000000000000000000000001.1",
		"-1.0", "+1.0", "-0.0", "+0.0", "1.-1", "1.+1", "1.-0", "1.+0", "-1.-1", "--1.0", "-.0", "1.-",
		" 1.2", "1.2 ", "1 .2", "1. 2", " ", " . ", "1.2\n", "\n1.2", "\t1.2", "1.2\t", "1.2\r\n", "1.2\x00", "\x001.2", "1\x00.2", "1.2\u00a0", "1.\u20032", "\ufeff1.2",
		"1,2", "1:2", "1/2", "1;2", "1-2", "1_2", "1'2", "1\uff0e2", "1\u00b72", "1\u06542", "1\u30022", "1\u20242",
		"1.2a", "a.2", "1.a", "a", "a.b", "1e0.2", "1.2e0", "0x1.2", "1.0x2", "0b1.1", "0o1.1", "1_0.2", "1.1_0", "f.f", "1.2.a", "(1.2)", "{1, 2}", "\"1.2\"", "1.2,3.4", "1.2 3.4",
		"\u0661.\u0662", "1.\u0662", "\u0661.2", "\u06f1.\u06f2", "\u0967.\u0968", "\uff11.\uff12", "1.\uff12", "\uff11.2", "\U0001d7cf.\U0001d7d0", "1.\u00b2", "\u00b9.2", "1.\u2461", "\u2160.2", "1.\u00bd", "1.\u4e8c", "1\u0301.2", "1.2\u0301",
		"\u0131.\u0132", "\u0130.\u0130", "\u012e1", "1\u012e2", "1.\U00010030", "\u0030\u0130.0",
		"\xff", "\xff.1", "1.\xff", "1\xff2", "1.2\xff", "\xff1.2", "1\x80.2", "1.\xc0\xb2", "\xc0\xb1.2", "1\xc0\xae2", "1.2\xe2\x82", "\xed\xa0\x80.2", "1.2\xf0\x9f", "\xf4\x90\x80\x80.1", "\ufffd.1", "1.\ufffd",
		"32.0", "33.0", "99.0", "100.0", "310.0", "65535.0", "65536.0", "0.65536", "0.65537", "0.99999", "0.655350", "0.100000", "31.65536", "32.65535", "32.65536",
		"4294967296.0", "4294967297.1", "0.4294967296", "1.4294967298", "9223372036854775807.0", "0.9223372036854775807", "9223372036854775808.0", "0.9223372036854775808", "18446744073709551616.0", "18446744073709551617.0", "0.18446744073709551616", "1.18446744073709551618", "0.36893488147419103232", "0.184467440737095516160", "340282366920938463463374607431768211456.0", "0.340282366920938463463374607431768211457"}
	for _, n := range []int{20, 100, 1000, 100000} {
		for _, d := range []string{"0", "1", "9"} {
			row := strings.Repeat(d, n)
			l = append(l, row, row+".", "."+row, row+".0", "0."+row, row+"."+row, "1."+row+"2", row+"1.2")
		}
		dots := strings.Repeat(".", n)
		l = append(l, dots, "1"+dots+"2", "1.2"+dots, dots+"1.2", "1.2"+strings.Repeat(" ", n), strings.Repeat("1.", n)+"1")
	}
	return l
}

// P7.1: Right

func TestRightWithinTheLimits(t *testing.T) {
	for _, h := range goodHandles() {
		if !Right(h) {
			t.Errorf("Right(%v) = false", h)
		}
	}
}

func TestRightBeyondTheLimits(t *testing.T) {
	for _, h := range badHandles() {
		if Right(h) {
			t.Errorf("Right(%v) = true", h)
		}
	}
}

func TestRightAtTheEdges(t *testing.T) {
	for h, want := range map[api.Handle]bool{{}: true, {Index: -1}: false, {Index: 31}: true, {Index: 32}: false, {Gen: -1}: false, {Gen: 65535}: true, {Gen: 65536}: false, {Index: 31, Gen: 65535}: true, {Index: 32, Gen: 65536}: false, {Index: -1, Gen: -1}: false, {Index: 1, Gen: -1}: false, {Index: -1, Gen: 1}: false} {
		if Right(h) != want {
			t.Errorf("Right(%v) = %v", h, !want)
		}
	}
}

// TestLimits: the limits of package api are those that the tests have.
func TestLimits(t *testing.T) {
	if api.MaxSlots != slots || api.MaxGen != lastGen {
		t.Errorf("MaxSlots %d, MaxGen %d", api.MaxSlots, api.MaxGen)
	}
}

// P7.1: Code

func TestCodeExamples(t *testing.T) {
	for h, want := range map[api.Handle]int{{Index: 1, Gen: 2}: 65539, {}: 1, {Gen: 1}: 2, {Gen: 65535}: 65536, {Index: 1}: 65537, {Index: 31}: 2031617, {Index: 31, Gen: 65535}: 2097152, {Index: 2, Gen: 0}: 131073} {
		if n, e := Code(h); n != want || e != api.OK {
			t.Errorf("Code(%v) = %d, %v; want %d", h, n, e, want)
		}
	}
}

func TestCodeWithinTheLimits(t *testing.T) {
	for _, h := range goodHandles() {
		if n, e := Code(h); n != h.Index*65536+h.Gen+1 || e != api.OK {
			t.Errorf("Code(%v) = %d, %v", h, n, e)
		}
	}
}

// TestCodeBeyondTheLimits: W3, W4: ErrArg, and 0 beside it.
func TestCodeBeyondTheLimits(t *testing.T) {
	for _, h := range badHandles() {
		if n, e := Code(h); n != 0 || e != api.ErrArg {
			t.Errorf("Code(%v) = %d, %v", h, n, e)
		}
	}
}

// P7.1: Of

func TestOfExamples(t *testing.T) {
	for n, want := range map[int]api.Handle{65539: {Index: 1, Gen: 2}, 1: {}, 2: {Gen: 1}, 65536: {Gen: 65535}, 65537: {Index: 1}, 131072: {Index: 1, Gen: 65535}, 131073: {Index: 2}, last - 1: {Index: 31, Gen: 65534}, last: {Index: 31, Gen: 65535}} {
		if h, is := Of(n); h != want || !is {
			t.Errorf("Of(%d) = %v, %v; want %v", n, h, is, want)
		}
	}
}

// TestOfNoOnesNumbers: a false, and a handle that is zero beside it.
func TestOfNoOnesNumbers(t *testing.T) {
	for _, n := range badCodes() {
		if h, is := Of(n); h != (api.Handle{}) || is {
			t.Errorf("Of(%d) = %v, %v", n, h, is)
		}
	}
	roll := dice(1)
	for range 10000 {
		for _, n := range []int{-roll(1 << 24), last + 1 + roll(1<<24), math.MaxInt - roll(1<<24), math.MinInt + roll(1<<24)} {
			if h, is := Of(n); h != (api.Handle{}) || is {
				t.Fatalf("Of(%d) = %v, %v", n, h, is)
			}
		}
	}
}

// P7.2: Text

func TestTextExamples(t *testing.T) {
	for h, want := range map[api.Handle]string{{Index: 1, Gen: 2}: "1.2", {}: "0.0", {Index: 31, Gen: 65535}: "31.65535", {Index: 10, Gen: 100}: "10.100", {Index: 9, Gen: 9}: "9.9", {Index: -1}: "", {Gen: -1}: "", {Index: 32}: "", {Gen: 65536}: ""} {
		if s := Text(h); s != want {
			t.Errorf("Text(%v) = %q; want %q", h, s, want)
		}
	}
}

func TestTextWithinTheLimits(t *testing.T) {
	for _, h := range goodHandles() {
		if s := Text(h); s != written(h) {
			t.Errorf("Text(%v) = %q", h, s)
		}
	}
}

func TestTextBeyondTheLimits(t *testing.T) {
	for _, h := range badHandles() {
		if s := Text(h); s != "" {
			t.Errorf("Text(%v) = %q", h, s)
		}
	}
}

// P7.2: Parse

func TestParseExamples(t *testing.T) {
	for s, want := range map[string]api.Handle{"1.2": {Index: 1, Gen: 2}, "0.0": {}, "31.65535": {Index: 31, Gen: 65535}, "10.100": {Index: 10, Gen: 100}, "0.10": {Gen: 10}, "10.0": {Index: 10}, "7.31": {Index: 7, Gen: 31}} {
		if h, e := Parse(s); h != want || e != api.OK {
			t.Errorf("Parse(%q) = %v, %v; want %v", s, h, e, want)
		}
	}
}

func TestParseWithinTheLimits(t *testing.T) {
	for _, want := range goodHandles() {
		if h, e := Parse(written(want)); h != want || e != api.OK {
			t.Errorf("Parse(%q) = %v, %v", written(want), h, e)
		}
	}
}

// cut is a text as a test tells it: long ones in part.
func cut(s string) string {
	if len(s) > 60 {
		return s[:60] + ".."
	}
	return s
}

// TestParseOfOthers: W3, W4: ErrForm, and a handle that is zero beside it.
func TestParseOfOthers(t *testing.T) {
	for _, s := range badTexts() {
		if _, is := parsed(s); is {
			t.Fatalf("%q: the test's own definition says that it is a handle's", cut(s))
		}
		if h, e := Parse(s); h != (api.Handle{}) || e != api.ErrForm {
			t.Errorf("Parse of %d bytes, %q = %v, %v", len(s), cut(s), h, e)
		}
	}
}

func sameAsParsed(t *testing.T, s string) {
	t.Helper()
	want, is := parsed(s)
	h, e := Parse(s)
	if h != want || (e == api.OK) != is || !is && e != api.ErrForm {
		t.Fatalf("Parse(%q) = %v, %v; want %v, %v", s, h, e, want, is)
	}
}

// TestParseOfEachByte lays each byte, and each of many runes, at all places of a handle's text: over what is there, and between.
func TestParseOfEachByte(t *testing.T) {
	var pieces []string
	for n := range 256 {
		pieces = append(pieces, string([]byte{byte(n)}))
	}
	for n := 128; n < 0x110000; n = n*5/4 + 1 {
		pieces = append(pieces, string(rune(n)))
	}
	for n := range 10 {
		// Their last bytes are those of digits; so are digits of other scripts.
		for _, first := range []int{0x100, 0x130, 0x230, 0x660, 0x6f0, 0x966, 0xff10, 0x10030, 0x1d7ce} {
			pieces = append(pieces, string(rune(first+n)))
		}
	}
	for _, base := range []string{"1.2", "10.20", "0.0"} {
		for _, p := range pieces {
			for at := range len(base) + 1 {
				sameAsParsed(t, base[:at]+p+base[at:])
				if at < len(base) {
					sameAsParsed(t, base[:at]+p+base[at+1:])
				}
			}
		}
	}
}

// TestParseOfShortTexts goes through all short texts of a few bytes.
func TestParseOfShortTexts(t *testing.T) {
	row := []string{""}
	for range 6 {
		var next []string
		for _, s := range row {
			sameAsParsed(t, s)
			for _, p := range []string{"0", "1", "3", ".", "-"} {
				next = append(next, s+p)
			}
		}
		row = next
	}
}

func TestParseOfMixedTexts(t *testing.T) {
	roll := dice(2)
	pieces := []string{"0", "1", "2", "3", "5", "6", "9", "31", "32", "65535", "65536", ".", ".", ".", "0.", ".0", "-", "+", " ", "a", "\xff", "\u0661", "\uff11", "\ufffd"}
	good := 0
	for range 20000 {
		s := ""
		for range roll(5) {
			s += pieces[roll(len(pieces))]
		}
		sameAsParsed(t, s)
		if _, e := Parse(s); e == api.OK {
			good++
		}
	}
	if good < 100 {
		t.Errorf("only %d of the texts were handles'", good)
	}
}

// TestParseAroundTheLimits: one Index or Gen past its limit is refused, whatever the other one.
func TestParseAroundTheLimits(t *testing.T) {
	for n := range 1000 {
		h, e := Parse(digits(n) + ".7")
		if is := n < slots; (e == api.OK) != is || is && h != (api.Handle{Index: n, Gen: 7}) || !is && (e != api.ErrForm || h != (api.Handle{})) {
			t.Errorf("Parse(%d.7) = %v, %v", n, h, e)
		}
	}
	for n := 65000; n < 70000; n++ {
		h, e := Parse("31." + digits(n))
		if is := n <= lastGen; (e == api.OK) != is || is && h != (api.Handle{Index: 31, Gen: n}) || !is && (e != api.ErrForm || h != (api.Handle{})) {
			t.Errorf("Parse(31.%d) = %v, %v", n, h, e)
		}
	}
}

// P7.2: Compare

func TestCompareExamples(t *testing.T) {
	rows := []struct {
		a, b api.Handle
		want int
	}{
		{api.Handle{}, api.Handle{}, 0},
		{api.Handle{Index: 1, Gen: 2}, api.Handle{Index: 1, Gen: 2}, 0},
		{api.Handle{Index: 1, Gen: 2}, api.Handle{Index: 1, Gen: 3}, -1},
		{api.Handle{Index: 1, Gen: 3}, api.Handle{Index: 1, Gen: 2}, 1},
		{api.Handle{Index: 1, Gen: 9}, api.Handle{Index: 2, Gen: 0}, -1},
		{api.Handle{Index: 2, Gen: 0}, api.Handle{Index: 1, Gen: 9}, 1},
		{api.Handle{Index: 31, Gen: 65535}, api.Handle{}, 1},
		{api.Handle{Index: 0, Gen: 65535}, api.Handle{Index: 1, Gen: 0}, -1},
		{api.Handle{Index: 9, Gen: 0}, api.Handle{Index: 10, Gen: 0}, -1},
		{api.Handle{Index: -1, Gen: 0}, api.Handle{Index: 0, Gen: 0}, -1},
		{api.Handle{Index: 0, Gen: -1}, api.Handle{Index: 0, Gen: 0}, -1},
		{api.Handle{Index: math.MinInt}, api.Handle{Index: math.MaxInt}, -1},
		{api.Handle{Index: math.MaxInt}, api.Handle{Index: math.MinInt}, 1},
		{api.Handle{Gen: math.MinInt}, api.Handle{Gen: math.MaxInt}, -1},
		{api.Handle{Gen: math.MaxInt}, api.Handle{Gen: math.MinInt}, 1},
		{api.Handle{Index: math.MinInt, Gen: math.MaxInt}, api.Handle{Index: math.MinInt, Gen: math.MaxInt}, 0},
		{api.Handle{Index: -1, Gen: 65537}, api.Handle{Index: 0, Gen: 0}, -1},
		{api.Handle{Index: 0, Gen: 65537}, api.Handle{Index: 1, Gen: 0}, -1},
		{api.Handle{Index: 1 << 32}, api.Handle{}, 1},
		{api.Handle{Gen: 1 << 32}, api.Handle{}, 1},
	}
	for _, r := range rows {
		if got := Compare(r.a, r.b); got != r.want {
			t.Errorf("Compare(%v, %v) = %d", r.a, r.b, got)
		}
	}
}

// stands is P7.2, word by word.
func stands(a, b api.Handle) int {
	switch {
	case a.Index < b.Index:
		return -1
	case a.Index > b.Index:
		return 1
	case a.Gen < b.Gen:
		return -1
	case a.Gen > b.Gen:
		return 1
	}
	return 0
}

// TestCompareOfAll: also of handles that are not right.
func TestCompareOfAll(t *testing.T) {
	l := allHandles()
	for _, a := range l {
		for _, b := range l {
			if got := Compare(a, b); got != stands(a, b) {
				t.Fatalf("Compare(%v, %v) = %d", a, b, got)
			}
		}
	}
}

// P7.3

// TestEachHandle goes through all handles that are right: their numbers are 1, 2, and so on, and numbers and texts lead back.
func TestEachHandle(t *testing.T) {
	n := 0
	for index := range slots {
		for gen := range lastGen + 1 {
			h := api.Handle{Index: index, Gen: gen}
			n++
			code, e := Code(h)
			if back, is := Of(n); !Right(h) || code != n || e != api.OK || back != h || !is {
				t.Fatalf("%v: Right = %v, Code = %d, %v; Of(%d) = %v, %v", h, Right(h), code, e, n, back, is)
			}
			s := Text(h)
			if back, f := Parse(s); back != h || f != api.OK {
				t.Fatalf("Text(%v) = %q; Parse of it %v, %v", h, s, back, f)
			}
		}
	}
	if n != last {
		t.Errorf("there are %d", n)
	}
}

// TestEachTextIsOnes: what Parse takes is just what Text writes.
func TestEachTextIsOnes(t *testing.T) {
	roll := dice(3)
	for range 100000 {
		s := digits(roll(40)) + "." + digits(roll(70000))
		if roll(4) == 0 {
			s = "0" + s
		}
		h, e := Parse(s)
		if e == api.OK && Text(h) != s {
			t.Fatalf("Parse(%q) = %v, whose text is %q", s, h, Text(h))
		}
		if want, is := parsed(s); h != want || is != (e == api.OK) {
			t.Fatalf("Parse(%q) = %v, %v", s, h, e)
		}
	}
}

// TestWrongOnesHaveNothing: a handle that is not right has no number and no text, and neither leads to it.
func TestWrongOnesHaveNothing(t *testing.T) {
	for _, h := range badHandles() {
		n, e := Code(h)
		if back, is := Of(n); e != api.ErrArg || is || back != (api.Handle{}) {
			t.Errorf("Code(%v) = %d, %v", h, n, e)
		}
		if back, f := Parse(Text(h)); f != api.ErrForm || back != (api.Handle{}) {
			t.Errorf("Text(%v) = %q", h, Text(h))
		}
	}
}

// P7.4

func TestNumbersStandAsHandlesDo(t *testing.T) {
	l := goodHandles()
	roll := dice(4)
	for range 300 {
		l = append(l, api.Handle{Index: roll(slots), Gen: roll(lastGen + 1)})
	}
	for _, a := range l {
		for _, b := range l {
			m, _ := Code(a)
			n, _ := Code(b)
			want := 0
			if m < n {
				want = -1
			} else if m > n {
				want = 1
			}
			if got := Compare(a, b); got != want || got != stands(a, b) {
				t.Fatalf("Compare(%v, %v) = %d; their numbers are %d and %d", a, b, got, m, n)
			}
		}
	}
}

func TestNumbersOneBehindAnother(t *testing.T) {
	was, _ := Of(1)
	for n := 2; n <= last; n++ {
		h, is := Of(n)
		if !is || Compare(was, h) != -1 || Compare(h, was) != 1 || Compare(h, h) != 0 {
			t.Fatalf("Of(%d) = %v, %v, behind %v", n, h, is, was)
		}
		was = h
	}
}

// W2: the same each time, whatever was asked between.
func TestSameEachTime(t *testing.T) {
	for range 3 {
		for _, h := range allHandles() {
			n, e := Code(h)
			if is := isRight(h); Right(h) != is || (e == api.OK) != is || (Text(h) != "") != is {
				t.Errorf("%v: Right = %v, Code = %d, %v, Text = %q", h, Right(h), n, e, Text(h))
			}
		}
		for _, s := range []string{"1.2", "1.02", "", "31.65535", "32.0"} {
			sameAsParsed(t, s)
		}
	}
}
