package roots

import (
	"bytes"
	"slices"
	"strings"
	"testing"

	"joist/api"
)

// word is a number in eight bytes, by hand.
func word(n int) []byte {
	b := make([]byte, 8)
	for i := range b {
		b[i] = byte(n % 256)
		n /= 256
	}
	return b
}

// codeOf is a To's number, 0 beside no name.
func codeOf(r api.Root) int {
	if r.Name == "" {
		return 0
	}
	return r.To.Index*65536 + r.To.Gen + 1
}

// parts is a root's bytes, whatever its parts are; the name must fit.
func parts(name string, number, last int) []byte {
	b := make([]byte, lastName)
	copy(b, name)
	return slices.Concat(b, word(number), word(last))
}

// laid is the chapter's section on bytes.
func laid(l []api.Root) []byte {
	var b []byte
	for _, r := range l {
		b = append(b, parts(r.Name, codeOf(r), 0)...)
	}
	return b
}

// told are the roots that bytes are, without what is tested.
func told(b []byte) ([]api.Root, bool) {
	if len(b)%perRoot != 0 {
		return nil, false
	}
	var l []api.Root
	for ; len(b) > 0; b = b[perRoot:] {
		name := strings.TrimRight(string(b[:16]), "\x00")
		// The greatest number has three bytes.
		number := int(b[16]) + int(b[17])<<8 + int(b[18])<<16
		if !bytes.Equal(b[19:32], make([]byte, 13)) || (name == "") != (number == 0) {
			return nil, false
		}
		r := api.Root{Name: name}
		if number > 0 {
			r.To = to((number-1)/65536, (number-1)%65536)
		}
		l = append(l, r)
	}
	return l, isRight(l)
}

func bytesOf(t *testing.T, l []api.Root) []byte {
	t.Helper()
	b, e := Bytes(l)
	if e != api.OK {
		t.Fatalf("Bytes(%v) tells %v", l, e)
	}
	return b
}

func readRefused(t *testing.T, b []byte) {
	t.Helper()
	if l, is := Read(b); len(l) != 0 || is {
		t.Errorf("Read of %d bytes %q = %v, %v; want none, false", len(b), b[:min(len(b), 256)], l, is)
	}
}

// sameAsTold holds Read against the tests' own reader.
func sameAsTold(t *testing.T, b []byte) bool {
	t.Helper()
	want, right := told(b)
	if !right {
		want = nil
	}
	l, is := Read(b)
	if is != right || !slices.Equal(l, want) {
		t.Fatalf("Read of %d bytes %q = %v, %v; want %v, %v", len(b), b[:min(len(b), 256)], l, is, want, right)
	}
	return is
}

// P9.3: Bytes

func TestBytesExample(t *testing.T) {
	l := []api.Root{root("ab", 1, 2), {}, root("abcdefghijklmnop", 31, 65535), root("é", 0, 0)}
	want := "ab\x00\x00\x00\x00\x00\x00\x00\x00\x00\x00\x00\x00\x00\x00" + "\x03\x00\x01\x00\x00\x00\x00\x00" + "\x00\x00\x00\x00\x00\x00\x00\x00" +
		strings.Repeat("\x00", 32) +
		"abcdefghijklmnop" + "\x00\x00\x20\x00\x00\x00\x00\x00" + "\x00\x00\x00\x00\x00\x00\x00\x00" +
		"\xc3\xa9\x00\x00\x00\x00\x00\x00\x00\x00\x00\x00\x00\x00\x00\x00" + "\x01\x00\x00\x00\x00\x00\x00\x00" + "\x00\x00\x00\x00\x00\x00\x00\x00"
	if b := bytesOf(t, l); string(b) != want {
		t.Errorf("Bytes = %q", b)
	}
	if got, is := Read([]byte(want)); !slices.Equal(got, l) || !is {
		t.Errorf("Read = %v, %v", got, is)
	}
}

func TestBytesOfNew(t *testing.T) {
	for n := 2; n <= maxRoots; n += 2 {
		l, _ := New(n)
		if b := bytesOf(t, l); !bytes.Equal(b, make([]byte, n*perRoot)) {
			t.Errorf("New(%d) in bytes: %v", n, b)
		}
	}
}

func TestBytesOfRightOnes(t *testing.T) {
	for _, l := range rightRoots() {
		if b := bytesOf(t, l); !bytes.Equal(b, laid(l)) {
			t.Fatalf("Bytes(%v) = %q; want %q", l, b, laid(l))
		}
	}
}

func TestBytesRefuses(t *testing.T) {
	for _, l := range wrongRoots() {
		if b, e := Bytes(l); len(b) != 0 || e != api.ErrArg {
			t.Errorf("Bytes(%d: %v) = %v, %v; want none, ErrArg", len(l), l, b, e)
		}
	}
}

// P9.3: Read

func TestReadOfRightOnes(t *testing.T) {
	for _, want := range rightRoots() {
		if l, is := Read(laid(want)); !slices.Equal(l, want) || !is {
			t.Fatalf("Read of the bytes of %v = %v, %v", want, l, is)
		}
	}
}

// TestReadOfLengths: whole roots of right numbers alone.
func TestReadOfLengths(t *testing.T) {
	readRefused(t, nil)
	readRefused(t, []byte{})
	for n := range 20 {
		for _, l := range [][]api.Root{bare(n), full(n)} {
			b := laid(l)
			_, is := Read(b)
			if want := n == 2 || n == 4 || n == 6 || n == 8; is != want {
				t.Errorf("%d roots: Read = %v", n, is)
			}
			for _, more := range []int{1, 8, 15, 16, 24, 31} {
				readRefused(t, append(slices.Clone(b), make([]byte, more)...))
				if len(b) > 0 {
					readRefused(t, b[:len(b)-more])
				}
			}
		}
	}
	for n := range 400 {
		sameAsTold(t, make([]byte, n))
		sameAsTold(t, bytes.Repeat([]byte{255}, n))
		sameAsTold(t, bytes.Repeat([]byte{'a'}, n))
		// What lies in the spare room is not read.
		sameAsTold(t, laid(full(16))[:n])
	}
	readRefused(t, make([]byte, 1<<20))
}

// TestReadOfTurnedBytes lays each value at each place: some of them make other roots, most make none.
func TestReadOfTurnedBytes(t *testing.T) {
	for _, l := range [][]api.Root{
		bare(2),
		{root("a", 0, 0), root("b", lastIndex, lastGen)},
		{{}, root("abcdefghijklmnop", 1, 2), root("éa", 31, 0), {}},
		full(maxRoots),
		{root("a", 0, 0), root("b", 0, 0), root("c", 0, 0), {}, {}, root("aa", 0, 0)},
	} {
		right := laid(l)
		others := 0
		for at := range right {
			for n := range 256 {
				b := slices.Clone(right)
				b[at] = byte(n)
				if sameAsTold(t, b) && byte(n) != right[at] {
					others++
				}
				if at%perRoot >= 19 && byte(n) != right[at] {
					readRefused(t, b)
				}
			}
		}
		if named := slices.ContainsFunc(l, func(r api.Root) bool { return r.Name != "" }); (others > 0) != named {
			t.Errorf("%v: %d turned bytes made other roots", l, others)
		}
	}
}

// around puts a root's bytes at each place of right ones, some with names and some without.
func around(b []byte) [][]byte {
	var l [][]byte
	for _, n := range []int{2, 4, maxRoots} {
		for k := range n {
			for _, others := range [][]api.Root{bare(n), full(n)} {
				all := laid(others)
				copy(all[k*perRoot:], b)
				l = append(l, all)
			}
		}
	}
	return l
}

func TestReadOfLastWords(t *testing.T) {
	for _, n := range []int{1, 2, 255, 256, 65536, 1 << 32, 1 << 56, api.MaxWord} {
		for _, r := range [][]byte{parts("", 0, n), parts("a", 1, n), parts("a", 65539, n), parts("abcdefghijklmnop", 1, n)} {
			for _, b := range around(r) {
				readRefused(t, b)
			}
		}
	}
}

func TestReadOfNumbersBesideNoName(t *testing.T) {
	for _, n := range []int{1, 2, 65536, 65537, 65539, 32 * 65536, 32*65536 + 1, 1 << 32, 1 << 56, api.MaxWord} {
		for _, b := range around(parts("", n, 0)) {
			readRefused(t, b)
		}
	}
}

func TestReadOfNumbersBesideAName(t *testing.T) {
	for _, name := range []string{"a", "é", "abcdefghijklmnop"} {
		for _, n := range []int{0, 32*65536 + 1, 32*65536 + 2, 33 * 65536, 1 << 24, 1<<24 + 1, 1 << 32, 1<<32 + 1, 1 << 56, 1<<61 + 1, api.MaxWord} {
			for _, b := range around(parts(name, n, 0)) {
				readRefused(t, b)
			}
		}
		for _, n := range []int{1, 2, 65536, 65537, 65539, 32*65536 - 1, 32 * 65536} {
			for _, b := range around(parts(name, n, 0)) {
				if !sameAsTold(t, b) {
					t.Errorf("%q with the number %d is not read", name, n)
				}
			}
		}
	}
}

// TestReadOfNoWords: numbers above MaxWord, also those that would be right if they were cut.
func TestReadOfNoWords(t *testing.T) {
	for _, r := range []api.Root{{}, root("a", 0, 0), root("b", 1, 2)} {
		for _, at := range []int{23, 31} {
			for _, top := range []byte{63, 64, 128, 192, 255} {
				one := laid([]api.Root{r})
				one[at] = top
				for _, b := range around(one) {
					readRefused(t, b)
				}
			}
		}
	}
}

func TestReadOfBadNames(t *testing.T) {
	for _, name := range badNames() {
		if len(name) > lastName || strings.Trim(name, "\x00") == "" || name == "a\x00" {
			continue // those do not fit, or are no other name's bytes
		}
		for _, n := range []int{0, 1, 65539} {
			for _, b := range around(parts(name, n, 0)) {
				readRefused(t, b)
			}
		}
	}
}

// TestReadOfOneNameTwice: at each two places.
func TestReadOfOneNameTwice(t *testing.T) {
	for _, l := range twins() {
		readRefused(t, laid(l))
	}
	for _, name := range goodNames() {
		readRefused(t, laid([]api.Root{root(name, 1, 2), {}, {}, root(name, 3, 4)}))
		readRefused(t, laid([]api.Root{root(name, 1, 2), root(name, 1, 2)}))
	}
}

// P9.6

func TestWrittenIsRead(t *testing.T) {
	roll := dice(3)
	for range 3000 {
		l := rollRoots(roll)
		b := bytesOf(t, l)
		if back, is := Read(b); !slices.Equal(back, l) || !is {
			t.Fatalf("Read of the bytes of %v = %v, %v", l, back, is)
		}
	}
}

// TestReadIsWritten: of bytes of all kinds, many of them near to those of roots, what is read is written as it was.
func TestReadIsWritten(t *testing.T) {
	roll := dice(4)
	good := 0
	for range 20000 {
		b := laid(rollRoots(roll))
		for range roll(4) {
			b[roll(len(b)/8)*8+roll(3)] = byte(roll(256))
		}
		if roll(10) == 0 {
			b = b[:roll(len(b)+1)]
		}
		if !sameAsTold(t, b) {
			continue
		}
		good++
		l, _ := Read(b)
		if back, e := Bytes(l); e != api.OK || !bytes.Equal(back, b) {
			t.Fatalf("Bytes of what was read = %q, %v; want %q", back, e, b)
		}
	}
	if good < 1000 || good > 19000 {
		t.Errorf("%d of the bytes were roots'", good)
	}
}

func TestNoTwoHaveTheSameBytes(t *testing.T) {
	seen := map[string][]api.Root{}
	for _, l := range rightRoots() {
		b := string(bytesOf(t, l))
		if other, is := seen[b]; is && !slices.Equal(l, other) {
			t.Errorf("%v and %v have the same bytes", l, other)
		}
		seen[b] = l
	}
}
