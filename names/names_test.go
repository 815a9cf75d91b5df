package names

import (
	"bytes"
	"strings"
	"testing"

	"joist/api"
)

const highest = 0x10ffff

// encode writes a number as UTF-8 in so many bytes, also where it needs fewer or is no rune: it is made by hand, as the tests must not lean on what they hold the package against.
func encode(n, size int) string {
	if size == 1 {
		return string([]byte{byte(n)})
	}
	out := make([]byte, size)
	for i := size - 1; i > 0; i-- {
		out[i] = byte(0x80 | n&0x3f)
		n >>= 6
	}
	out[0] = byte(0xff00>>size | n)
	return string(out)
}

// width is how many bytes a rune needs.
func width(n int) int {
	switch {
	case n < 0x80:
		return 1
	case n < 0x800:
		return 2
	case n < 0x10000:
		return 3
	}
	return 4
}

func text(n int) string {
	return encode(n, width(n))
}

func surrogate(n int) bool {
	return n >= 0xd800 && n <= 0xdfff
}

// first reads the rune at the beginning of s, by hand: how many bytes it has, and 0 where there is none.
func first(s string) (int, int) {
	for size := 1; size <= 4 && size <= len(s); size++ {
		n := int(s[0])
		if size > 1 {
			n &= 0x7f >> size
		}
		for i := 1; i < size; i++ {
			n = n<<6 | int(s[i])&0x3f
		}
		if n <= highest && !surrogate(n) && width(n) == size && encode(n, size) == s[:size] {
			return n, size
		}
	}
	return 0, 0
}

// isName is the chapter's definition, word by word.
func isName(s string) bool {
	if len(s) < 1 || len(s) > 16 {
		return false
	}
	for s != "" {
		n, size := first(s)
		if size == 0 || n <= 32 || n >= 127 && n <= 160 || n == 0xfffd {
			return false
		}
		s = s[size:]
	}
	return true
}

// folded is P6.2, word by word.
func folded(s string) string {
	out := ""
	for s != "" {
		n, size := first(s)
		switch {
		case size == 0:
			out, size = out+"\xef\xbf\xbd", 1
		case n >= 97 && n <= 122:
			out += text(n - 32)
		default:
			out += s[:size]
		}
		s = s[size:]
	}
	return out
}

func padded(s string) []byte {
	return append([]byte(s), make([]byte, 16-len(s))...)
}

// goodNames are names: ordinary ones, and those at the edges.
func goodNames() []string {
	l := []string{"a", "z", "A", "Z", "a-1", "ab", "root", "Root", "0", "!", "~", "é", "ß", "日本", "𝄞", "a.b/c", "\"", "\\", "`a`", "{}", "@[", "/:",
		text(33), text(126), text(161), text(255), text(0x7ff), text(0x800), text(0xd7ff), text(0xe000), text(0xfffc), text(0xfffe), text(0xffff), text(0x10000), text(highest),
		text(0xfeff), text(0x301), text(0x2028), text(0x3000)}
	for n := 1; n <= 16; n++ {
		l = append(l, strings.Repeat("a", n), "abcdefghijklmnop"[:n])
	}
	for _, r := range []int{161, 0x7ff, 0x800, 0xffff, 0x10000, highest} {
		size := width(r)
		l = append(l, strings.Repeat("a", 16-size)+text(r), text(r)+strings.Repeat("a", 16-size), strings.Repeat(text(r), 16/size))
	}
	return l
}

// badBytes are bytes that are no UTF-8.
func badBytes() []string {
	l := []string{"\x80", "\xbf", "\xc0", "\xc1", "\xf5", "\xf8", "\xfc", "\xfe", "\xff", "\xff\xff"}
	for _, r := range []int{161, 0x7ff, 0x800, 0x20ac, 0xffff, 0x10000, highest} {
		for n := 1; n < width(r); n++ {
			l = append(l, text(r)[:n], text(r)[n:])
		}
	}
	for n := 0xd800; n <= 0xdfff; n += 0x3ff {
		l = append(l, encode(n, 3))
	}
	for _, n := range []int{0, 33, 'a', 126} {
		l = append(l, encode(n, 2), encode(n, 3), encode(n, 4))
	}
	return append(l, encode(161, 3), encode(161, 4), encode(0x7ff, 3), encode(0x7ff, 4), encode(0x800, 4), encode(0xffff, 4), encode(highest+1, 4), encode(0x1fffff, 4), encode(0x200000, 5))
}

// badNames are texts that are no names, but for the empty one.
func badNames() []string {
	l := []string{" ", "a b", " a", "a ", "\x00", "a\x00", "\x00a", "a\x00b", "\t", "\n", "a\n", "\x1f", "\x7f", "a\x7f", text(128), text(159), text(160), "a" + text(160), "\ufffd", "a\ufffdb", "\ufffd\ufffd",
		"abcdefghijklmnopq", strings.Repeat("a", 17), strings.Repeat("a", 32), strings.Repeat("é", 9), strings.Repeat("a", 1000), strings.Repeat("\x00", 16), strings.Repeat("\x00", 17), strings.Repeat(" ", 16), strings.Repeat(" ", 17)}
	for _, s := range badBytes() {
		l = append(l, s, s+"a", "a"+s, "a"+s+"a")
	}
	for _, r := range []int{161, 0x7ff, 0x800, 0xffff, 0x10000, highest} {
		for n := 1; n < width(r); n++ {
			// The rune would end behind the sixteenth byte: the whole is too long, what is within is cut short.
			long := strings.Repeat("a", 16-n) + text(r)
			l = append(l, long, long[:16])
		}
	}
	return l
}

// texts are names, texts that are none, and the empty one.
func texts() []string {
	return append(append(goodNames(), badNames()...), "")
}

// dice are numbers without an order that anybody sees, but the same each time.
func dice(seed uint32) func(n int) int {
	return func(n int) int {
		seed = seed*1664525 + 1013904223
		return int(seed>>8) % n
	}
}

// mixed is a text of pieces of all kinds.
func mixed(roll func(int) int, pieces []string) string {
	s := ""
	for range roll(8) {
		s += pieces[roll(len(pieces))]
	}
	return s
}

func pieces() []string {
	return append(badBytes(), "a", "z", "A", "Z", "@", "[", "`", "{", "é", "0", " ", "\x00", "\x7f", text(160), text(161), "\ufffd", "€", "𝄞", text(highest), "abcdefgh", "xyz", "~", "!")
}

// P6.1: Right

func TestRightExamples(t *testing.T) {
	for i, s := range []string{"a-1", "é", "a b", ""} {
		if is := Right(s); is != (i < 2) {
			t.Errorf("Right(%q) = %v", s, is)
		}
	}
}

func TestRightOfNames(t *testing.T) {
	for _, s := range goodNames() {
		if !isName(s) {
			t.Fatalf("%q: the test's own definition says that it is no name", s)
		}
		if !Right(s) {
			t.Errorf("Right(%q) = false", s)
		}
	}
}

func TestRightOfOthers(t *testing.T) {
	for _, s := range append(badNames(), "") {
		if isName(s) {
			t.Fatalf("%q: the test's own definition says that it is a name", s)
		}
		if Right(s) {
			t.Errorf("Right(%q) = true", s)
		}
	}
}

func TestRightOfLengths(t *testing.T) {
	for n := range 40 {
		for _, s := range []string{"a", "~", text(161), text(0x800), text(0x10000), text(highest)} {
			s = strings.Repeat(s, n)
			if is := Right(s); is != (len(s) >= 1 && len(s) <= 16) {
				t.Errorf("Right of %d bytes, %q: %v", len(s), s, is)
			}
		}
	}
}

// TestRightOfLastRunes: a text of sixteen bytes is fine up to its last one, whatever rune ends there; with a rune that ends behind it, it is none, whole or cut.
func TestRightOfLastRunes(t *testing.T) {
	for _, r := range []int{'a', 161, 0x7ff, 0x800, 0xffff, 0x10000, highest} {
		for n := range 20 {
			s := strings.Repeat("a", n) + text(r)
			if is := Right(s); is != (len(s) <= 16) {
				t.Errorf("Right(%q) = %v", s, is)
			}
			if len(s) > 16 && n < 16 && Right(s[:16]) {
				t.Errorf("Right(%q) = true: its last rune is cut short", s[:16])
			}
		}
	}
}

func TestRightOfEachRune(t *testing.T) {
	for n := range highest + 1 {
		if surrogate(n) {
			continue
		}
		want := n > 32 && (n < 127 || n > 160) && n != 0xfffd
		s := text(n)
		if Right(s) != want || Right("a"+s+"b") != want {
			t.Fatalf("Right of the rune %#x is not %v", n, want)
		}
	}
}

func TestRightOfRunesAtTheEdges(t *testing.T) {
	for n, want := range map[int]bool{0: false, 31: false, 32: false, 33: true, 126: true, 127: false, 128: false, 159: false, 160: false, 161: true, 0xfffc: true, 0xfffd: false, 0xfffe: true, highest: true} {
		for _, s := range []string{text(n), text(n) + "a", "a" + text(n), "a" + text(n) + "a", strings.Repeat("a", 16-width(n)) + text(n)} {
			if Right(s) != want {
				t.Errorf("Right(%q) = %v", s, !want)
			}
		}
	}
}

// TestRightOfFewBytes goes through all texts of one and two bytes, and many of three and four.
func TestRightOfFewBytes(t *testing.T) {
	edges := []byte{0, 32, 33, 'a', 0x7e, 0x7f, 0x80, 0x8f, 0x90, 0x9f, 0xa0, 0xa1, 0xbd, 0xbf, 0xc0, 0xc1, 0xc2, 0xdf, 0xe0, 0xe1, 0xec, 0xed, 0xee, 0xef, 0xf0, 0xf1, 0xf3, 0xf4, 0xf5, 0xff}
	check := func(b ...byte) {
		if s := string(b); Right(s) != isName(s) {
			t.Errorf("Right(%q) = %v", s, !isName(s))
		}
	}
	for a := range 256 {
		check(byte(a))
		for b := range 256 {
			check(byte(a), byte(b))
		}
	}
	for _, a := range edges {
		for _, b := range edges {
			for _, c := range edges {
				check(a, b, c)
				for _, d := range edges {
					check(a, b, c, d)
				}
			}
		}
	}
}

func TestRightOfMixedTexts(t *testing.T) {
	roll, parts := dice(1), pieces()
	for range 50000 {
		if s := mixed(roll, parts); Right(s) != isName(s) {
			t.Fatalf("Right(%q) = %v", s, !isName(s))
		}
	}
}

// P6.1: Bytes

func TestBytesExamples(t *testing.T) {
	want := []byte{97, 98, 0, 0, 0, 0, 0, 0, 0, 0, 0, 0, 0, 0, 0, 0}
	if b, e := Bytes("ab"); e != api.OK || !bytes.Equal(b, want) {
		t.Errorf("Bytes(ab) = %v, %v", b, e)
	}
}

func TestBytesOfTheEmptyText(t *testing.T) {
	if b, e := Bytes(""); e != api.OK || !bytes.Equal(b, make([]byte, 16)) {
		t.Errorf("Bytes of nothing = %v, %v", b, e)
	}
}

func TestBytesOfNames(t *testing.T) {
	for _, s := range goodNames() {
		if b, e := Bytes(s); e != api.OK || !bytes.Equal(b, padded(s)) {
			t.Errorf("Bytes(%q) = %v, %v", s, b, e)
		}
	}
}

// TestBytesOfOthers: W3, W4: ErrForm, and nothing beside it.
func TestBytesOfOthers(t *testing.T) {
	for _, s := range badNames() {
		if b, e := Bytes(s); e != api.ErrForm || len(b) != 0 {
			t.Errorf("Bytes(%q) = %v, %v", s, b, e)
		}
	}
}

func TestBytesOfMixedTexts(t *testing.T) {
	roll, parts := dice(2), pieces()
	for range 50000 {
		s := mixed(roll, parts)
		b, e := Bytes(s)
		if s == "" || isName(s) {
			if e != api.OK || !bytes.Equal(b, padded(s)) {
				t.Fatalf("Bytes(%q) = %v, %v", s, b, e)
			}
		} else if e != api.ErrForm || len(b) != 0 {
			t.Fatalf("Bytes(%q) = %v, %v", s, b, e)
		}
	}
}

// P6.1: Read

func TestReadOfNames(t *testing.T) {
	for _, want := range append(goodNames(), "") {
		if s, is := Read(padded(want)); s != want || !is {
			t.Errorf("Read of %q in bytes = %q, %v", want, s, is)
		}
	}
}

func TestReadOfNoName(t *testing.T) {
	if s, is := Read(make([]byte, 16)); s != "" || !is {
		t.Errorf("Read of sixteen bytes 0 = %q, %v", s, is)
	}
}

func TestReadOfOthers(t *testing.T) {
	for _, s := range badNames() {
		if len(s) > 16 || strings.TrimRight(s, "\x00") == "" || isName(strings.TrimRight(s, "\x00")) {
			continue
		}
		if got, is := Read(padded(s)); got != "" || is {
			t.Errorf("Read of %q in bytes = %q, %v", s, got, is)
		}
	}
}

func TestReadOfLengths(t *testing.T) {
	if s, is := Read(nil); s != "" || is {
		t.Errorf("Read(nil) = %q, %v", s, is)
	}
	for n := range 50 {
		if n == 16 {
			continue
		}
		row := bytes.Repeat([]byte{'a'}, n)
		for _, b := range [][]byte{make([]byte, n), row, append([]byte("ab"), make([]byte, n)...)[:n]} {
			if s, is := Read(b); s != "" || is {
				t.Errorf("Read of %d bytes, %v = %q, %v", n, b, s, is)
			}
		}
	}
}

func TestReadOfAByteZeroAheadOfOthers(t *testing.T) {
	for n := 1; n <= 16; n++ {
		for at := range n - 1 {
			b := padded(strings.Repeat("a", n))
			b[at] = 0
			if s, is := Read(b); s != "" || is {
				t.Errorf("Read(%v) = %q, %v", b, s, is)
			}
		}
		b := make([]byte, 16)
		b[n-1] = 'a'
		if s, is := Read(b); is != (n == 1) || (s == "a") != is {
			t.Errorf("Read(%v) = %q, %v", b, s, is)
		}
	}
}

func TestReadOfRunesCutShort(t *testing.T) {
	for _, r := range []int{161, 0x7ff, 0x800, 0xffff, 0x10000, highest} {
		for n := range 16 {
			for size := 1; size < width(r) && n+size <= 16; size++ {
				if s, is := Read(padded(strings.Repeat("a", n) + text(r)[:size])); s != "" || is {
					t.Errorf("%d bytes and %d of %#x: Read = %q, %v", n, size, r, s, is)
				}
			}
		}
	}
}

func TestReadOfAllOneByte(t *testing.T) {
	for n := range 256 {
		want := ""
		if n > 32 && n < 127 {
			want = strings.Repeat(string([]byte{byte(n)}), 16)
		}
		if s, is := Read(bytes.Repeat([]byte{byte(n)}, 16)); s != want || is != (n == 0 || want != "") {
			t.Errorf("Read of sixteen bytes %d = %q, %v", n, s, is)
		}
	}
}

// P6.2

func TestFoldExamples(t *testing.T) {
	for s, want := range map[string]string{"aZ1": "AZ1", "": "", "\xff": "\ufffd", "aZ\xff": "AZ\ufffd", "a\xffb\xfe\xfd": "A\ufffdB\ufffd\ufffd", "a b\x00c\n": "A B\x00C\n", "abcdefghijklmnopqrstuvwxyz": "ABCDEFGHIJKLMNOPQRSTUVWXYZ", "@[`{": "@[`{", "éßıſÿǆ": "éßıſÿǆ", "\ufffd": "\ufffd"} {
		if got := Fold(s); got != want {
			t.Errorf("Fold(%q) = %q; want %q", s, got, want)
		}
	}
}

func TestFoldOfEachRune(t *testing.T) {
	for n := range highest + 1 {
		if surrogate(n) {
			continue
		}
		want := text(n)
		if n >= 97 && n <= 122 {
			want = text(n - 32)
		}
		if got := Fold(text(n)); got != want {
			t.Fatalf("Fold of the rune %#x = %q", n, got)
		}
	}
}

// TestFoldOfBadBytes: each byte that is no UTF-8 becomes a U+FFFD of its own, also those of a rune cut short, of a surrogate, of one written too long.
func TestFoldOfBadBytes(t *testing.T) {
	for _, s := range badBytes() {
		want := strings.Repeat("\ufffd", len(s))
		if got := Fold(s); got != want {
			t.Errorf("Fold(%q) = %q; want %q", s, got, want)
		}
		if got := Fold("a" + s + "z"); got != "A"+want+"Z" {
			t.Errorf("Fold(%q) = %q", "a"+s+"z", got)
		}
		if got := Fold("é" + s + " "); got != "é"+want+" " {
			t.Errorf("Fold(%q) = %q", "é"+s+" ", got)
		}
	}
}

func TestFoldOfTexts(t *testing.T) {
	for _, s := range texts() {
		if got := Fold(s); got != folded(s) {
			t.Errorf("Fold(%q) = %q; want %q", s, got, folded(s))
		}
	}
}

func TestFoldOfMixedTexts(t *testing.T) {
	roll, parts := dice(3), pieces()
	for range 50000 {
		if s := mixed(roll, parts); Fold(s) != folded(s) {
			t.Fatalf("Fold(%q) = %q; want %q", s, Fold(s), folded(s))
		}
	}
}

func TestFoldOfALongText(t *testing.T) {
	const n = 100000
	if got := Fold(strings.Repeat("aé\xff", n)); got != strings.Repeat("Aé\ufffd", n) {
		t.Errorf("Fold of a long text has %d bytes", len(got))
	}
}

// P6.3

const spare = 40

// roomy is a copy of b with spare room behind it, all of its bytes 0xee.
func roomy(b []byte) []byte {
	all := make([]byte, len(b)+spare)
	for i := range all[copy(all, b):] {
		all[len(b)+i] = 0xee
	}
	return all[:len(b)]
}

func untouched(b, was []byte) bool {
	return bytes.Equal(b, was) && bytes.Equal(b[len(b):cap(b)], bytes.Repeat([]byte{0xee}, spare))
}

// scribble writes over bytes, their spare room too.
func scribble(b []byte) {
	b = b[:cap(b)]
	for i := range b {
		b[i] = 0xcc
	}
}

func TestReadChangesNothing(t *testing.T) {
	l := [][]byte{nil, {}, make([]byte, 16), make([]byte, 15), make([]byte, 17), []byte("a\x00b\x00c\x00d\x00e\x00f\x00g\x00h\x00"), bytes.Repeat([]byte{0xff}, 16), bytes.Repeat([]byte{'z'}, 17)}
	for _, s := range goodNames() {
		l = append(l, padded(s))
	}
	for _, was := range l {
		b := roomy(was)
		Read(b)
		if !untouched(b, was) {
			t.Errorf("Read changed %v", was)
		}
	}
}

func TestReadKeepsNothing(t *testing.T) {
	for _, want := range append(goodNames(), "") {
		b := roomy(padded(want))
		s, _ := Read(b)
		scribble(b)
		if s != want {
			t.Errorf("Read of %q in bytes became %q", want, s)
		}
	}
}

func TestBytesAreNewEachTime(t *testing.T) {
	for _, s := range append(goodNames(), "") {
		b, _ := Bytes(s)
		other, _ := Bytes(s)
		scribble(other)
		if !bytes.Equal(b, padded(s)) {
			t.Errorf("two answers of Bytes(%q) share memory", s)
		}
		if again, e := Bytes(s); e != api.OK || !bytes.Equal(again, padded(s)) {
			t.Errorf("Bytes(%q) keeps what it answered", s)
		}
		if got, is := Read(b); got != s || !is {
			t.Errorf("Bytes(%q) reads as %q, %v", s, got, is)
		}
	}
}

// W2: the same each time, whatever was asked between.
func TestSameEachTime(t *testing.T) {
	for range 3 {
		for _, s := range texts() {
			if Right(s) != isName(s) || Fold(s) != folded(s) {
				t.Errorf("%q: Right = %v, Fold = %q", s, Right(s), Fold(s))
			}
		}
	}
}

// P6.4

func TestWrittenIsRead(t *testing.T) {
	check := func(s string) {
		if s != "" && !isName(s) {
			return
		}
		b, e := Bytes(s)
		if got, is := Read(b); e != api.OK || got != s || !is {
			t.Fatalf("Bytes(%q) = %v, %v; Read of it %q, %v", s, b, e, got, is)
		}
	}
	for _, s := range texts() {
		check(s)
	}
	for n := range highest + 1 {
		check(text(n))
	}
	roll := dice(4)
	for range 20000 {
		check(mixed(roll, []string{"a", "Z", "é", "€", "𝄞", "~"}))
	}
}

func TestReadIsWritten(t *testing.T) {
	roll, parts := dice(5), append(pieces(), "\x00\x00\x00\x00", "\x00\x00\x00\x00\x00\x00\x00")
	read := 0
	for i := range 100000 {
		s := mixed(roll, parts)
		if i%2 == 0 {
			s = mixed(roll, []string{"a", "é", "~", "𝄞", "\x00"})
		}
		b := append([]byte(s), make([]byte, 16)...)[:16]
		got, is := Read(b)
		front := strings.TrimRight(string(b), "\x00")
		if is != (front == "" || isName(front)) {
			t.Fatalf("Read(%v) = %q, %v", b, got, is)
		}
		if !is {
			if got != "" {
				t.Fatalf("Read(%v) = %q, false", b, got)
			}
			continue
		}
		read++
		if back, e := Bytes(got); e != api.OK || !bytes.Equal(back, b) {
			t.Fatalf("Read(%v) = %q; Bytes of it %v, %v", b, got, back, e)
		}
	}
	if read < 1000 {
		t.Errorf("only %d of the rows were read", read)
	}
}

// P6.5

func TestFoldOfAFold(t *testing.T) {
	check := func(s string) {
		once := Fold(s)
		if twice := Fold(once); twice != once {
			t.Fatalf("Fold(%q) = %q, and of that %q", s, once, twice)
		}
		if once != folded(s) {
			t.Fatalf("Fold(%q) = %q", s, once)
		}
	}
	for _, s := range texts() {
		check(s)
	}
	for n := range 256 {
		check(string([]byte{byte(n)}))
	}
	roll, parts := dice(6), pieces()
	for range 20000 {
		check(mixed(roll, parts))
	}
}

func TestFoldOfANameIsAName(t *testing.T) {
	check := func(s string) {
		if got := Fold(s); isName(s) && (!Right(got) || len(got) != len(s)) {
			t.Fatalf("Fold(%q) = %q: no name, or of another length", s, got)
		}
	}
	for _, s := range goodNames() {
		check(s)
	}
	for n := range highest + 1 {
		check(text(n))
	}
	roll := dice(7)
	for range 20000 {
		check(mixed(roll, []string{"a", "z", "q", "Z", "é", "€", "𝄞", "~"}))
	}
}
