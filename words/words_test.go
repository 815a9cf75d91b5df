package words

import (
	"bytes"
	"slices"
	"testing"

	"joist/api"
)

// ends are numbers at the edges of a word and of each of its bytes.
func ends() []int {
	l := []int{0, 1, 2, 258, api.MaxWord - 1, api.MaxWord}
	for i := range 62 {
		l = append(l, 1<<i-1, 1<<i)
	}
	return l
}

// beyond are numbers that no word has.
func beyond() []int {
	return []int{-1, -2, -256, api.MaxWord + 1, api.MaxWord + 2, api.MaxInt - 1, api.MaxInt, api.MinInt, api.MinInt + 1}
}

// row is bytes of which no two neighbours are alike; its words are all within MaxWord.
func row(n int) []byte {
	b := make([]byte, n)
	for i := range n {
		b[i] = byte(i%61 + 1)
	}
	return b
}

const spare = 40

// roomy is b with spare room behind it, all of its bytes 0xee.
func roomy(b []byte) []byte {
	all := make([]byte, len(b)+spare)
	for i := range all[copy(all, b):] {
		all[len(b)+i] = 0xee
	}
	return all[:len(b)]
}

func sameSpare(b []byte) bool {
	return bytes.Equal(b[len(b):cap(b)], bytes.Repeat([]byte{0xee}, spare))
}

// P1.1

func TestGetOrdinary(t *testing.T) {
	b := []byte{1, 0, 0, 0, 0, 0, 0, 0, 2, 1, 0, 0, 0, 0, 0, 0, 1, 2, 3, 4, 5, 6, 7, 8}
	for at, want := range []int{1, 258, 0x0807060504030201} {
		if n, is := Get(b, at); n != want || !is {
			t.Errorf("Get(b, %d) = %d, %v; want %d, true", at, n, is, want)
		}
	}
}

func TestGetEachByteHasItsPlace(t *testing.T) {
	for i := range api.WordSize {
		b := make([]byte, api.WordSize)
		b[i] = 0x2d
		if n, is := Get(b, 0); n != 0x2d<<(8*i) || !is {
			t.Errorf("byte %d: %#x, %v", i, n, is)
		}
	}
}

func TestGetPlaces(t *testing.T) {
	places := []int{-1, -2, -8, api.MinInt, api.MinInt + 1, api.MinInt / 8, api.MaxInt, api.MaxInt - 1, api.MaxInt / 8, api.MaxInt/8 + 1, 1 << 61, 1 << 62, 1<<61 + 1, -1 << 61, 1<<60 + 1}
	for size := range 34 {
		b := roomy(row(size))
		for at := range 6 {
			n, is := Get(b, at)
			if there := 8*at+8 <= size; is != there {
				t.Errorf("%d bytes, Get at %d: %v", size, at, is)
			}
			if !is && n != 0 {
				t.Errorf("%d bytes, Get at %d: %d beside a false", size, at, n)
			}
		}
		for _, at := range places {
			if n, is := Get(b, at); n != 0 || is {
				t.Errorf("%d bytes, Get at %d: %d, %v; want 0, false", size, at, n, is)
			}
		}
	}
}

func TestGetNumbers(t *testing.T) {
	greatest := []byte{255, 255, 255, 255, 255, 255, 255, 63}
	if n, is := Get(greatest, 0); n != api.MaxWord || !is {
		t.Errorf("MaxWord: %d, %v", n, is)
	}
	for _, b := range [][]byte{
		{0, 0, 0, 0, 0, 0, 0, 64},
		{1, 0, 0, 0, 0, 0, 0, 64},
		{0, 0, 0, 0, 0, 0, 0, 128},
		{1, 0, 0, 0, 0, 0, 0, 128},
		{255, 255, 255, 255, 255, 255, 255, 127},
		{255, 255, 255, 255, 255, 255, 255, 255},
		{0, 0, 0, 0, 0, 0, 0, 192},
	} {
		if n, is := Get(b, 0); n != 0 || is {
			t.Errorf("Get(%v, 0) = %d, %v; want 0, false", b, n, is)
		}
	}
}

func TestGetLooksAtItsOwnWordAlone(t *testing.T) {
	wild := bytes.Repeat([]byte{255}, api.WordSize)
	b := slices.Concat(wild, []byte{9, 0, 0, 0, 0, 0, 0, 0}, wild, []byte{1, 2, 3})
	if n, is := Get(b, 1); n != 9 || !is {
		t.Errorf("between words above MaxWord: %d, %v", n, is)
	}
}

func TestGetOfNothing(t *testing.T) {
	for _, b := range [][]byte{nil, {}} {
		if n, is := Get(b, 0); n != 0 || is {
			t.Errorf("Get(%#v, 0) = %d, %v", b, n, is)
		}
	}
}

// P1.2

func TestPutOrdinary(t *testing.T) {
	b := row(24)
	out, e := Put(b, 1, 0x0102030405060708)
	want := slices.Concat(b[:8], []byte{8, 7, 6, 5, 4, 3, 2, 1}, b[16:])
	if e != api.OK || !bytes.Equal(out, want) {
		t.Errorf("Put: %v, %v; want %v", out, e, want)
	}
}

func TestPutEnds(t *testing.T) {
	b := bytes.Repeat([]byte{0xaa}, api.WordSize)
	for n, want := range map[int]string{
		0:           "\x00\x00\x00\x00\x00\x00\x00\x00",
		1:           "\x01\x00\x00\x00\x00\x00\x00\x00",
		api.MaxWord: "\xff\xff\xff\xff\xff\xff\xff\x3f",
	} {
		if out, e := Put(b, 0, n); e != api.OK || string(out) != want {
			t.Errorf("Put(b, 0, %d) = %v, %v", n, out, e)
		}
	}
}

func TestPutRefusesNumbers(t *testing.T) {
	for _, n := range beyond() {
		if out, e := Put(make([]byte, 16), 1, n); e != api.ErrNum || len(out) != 0 {
			t.Errorf("Put(b, 1, %d) = %v, %v; want none, ErrNum", n, out, e)
		}
	}
}

func TestPutRefusesPlacesAheadOfNumbers(t *testing.T) {
	places := []int{-1, -8, api.MinInt, 3, 4, api.MaxInt, api.MaxInt / 8, 1 << 60, 1 << 61, 1<<61 + 1, -1 << 61}
	for _, at := range places {
		for _, n := range append(beyond(), 0, 1, api.MaxWord) {
			if out, e := Put(row(31), at, n); e != api.ErrArg || len(out) != 0 {
				t.Errorf("Put(31 bytes, %d, %d) = %v, %v; want none, ErrArg", at, n, out, e)
			}
		}
	}
}

func TestPutAtEachLength(t *testing.T) {
	for size := range 34 {
		b := roomy(row(size))
		for at := range 6 {
			out, e := Put(b, at, 5)
			if 8*at+8 > size {
				if e != api.ErrArg || len(out) != 0 {
					t.Errorf("%d bytes, Put at %d: %v, %v", size, at, out, e)
				}
				continue
			}
			if want := slices.Concat(b[:8*at], []byte{5, 0, 0, 0, 0, 0, 0, 0}, b[8*at+8:]); e != api.OK || !bytes.Equal(out, want) {
				t.Errorf("%d bytes, Put at %d: %v, %v", size, at, out, e)
			}
		}
	}
}

func TestPutIntoNothing(t *testing.T) {
	for _, b := range [][]byte{nil, {}} {
		for _, n := range []int{0, -1} {
			if out, e := Put(b, 0, n); e != api.ErrArg || len(out) != 0 {
				t.Errorf("Put(%#v, 0, %d) = %v, %v", b, n, out, e)
			}
		}
	}
}

func TestPutMindsNoOtherWord(t *testing.T) {
	wild := bytes.Repeat([]byte{255}, 19)
	out, e := Put(wild, 1, 7)
	if want := slices.Concat(wild[:8], []byte{7, 0, 0, 0, 0, 0, 0, 0}, wild[16:]); e != api.OK || !bytes.Equal(out, want) {
		t.Errorf("Put between words above MaxWord: %v, %v", out, e)
	}
	if out, e := Put(wild, 0, 0); e != api.OK || len(out) != 19 || !Zero(out[:8]) {
		t.Errorf("Put over a word above MaxWord: %v, %v", out, e)
	}
}

// P1.3

func TestOf(t *testing.T) {
	b, e := Of(1, 258, 0, api.MaxWord)
	want := "\x01\x00\x00\x00\x00\x00\x00\x00\x02\x01\x00\x00\x00\x00\x00\x00" +
		"\x00\x00\x00\x00\x00\x00\x00\x00\xff\xff\xff\xff\xff\xff\xff\x3f"
	if e != api.OK || string(b) != want {
		t.Errorf("Of: %v, %v", b, e)
	}
}

func TestOfNothing(t *testing.T) {
	for _, l := range [][]int{nil, {}} {
		if b, e := Of(l...); e != api.OK || len(b) != 0 {
			t.Errorf("Of(%#v...) = %v, %v", l, b, e)
		}
	}
	if b, e := Of(); e != api.OK || len(b) != 0 {
		t.Errorf("Of() = %v, %v", b, e)
	}
}

func TestOfRefuses(t *testing.T) {
	for _, n := range beyond() {
		for at := range 4 {
			l := []int{1, 2, 3, 4}
			l[at] = n
			if b, e := Of(l...); e != api.ErrNum || len(b) != 0 {
				t.Errorf("Of(%v) = %v, %v; want none, ErrNum", l, b, e)
			}
		}
	}
}

func TestAll(t *testing.T) {
	b := []byte{1, 0, 0, 0, 0, 0, 0, 0, 2, 1, 0, 0, 0, 0, 0, 0, 255, 255, 255, 255, 255, 255, 255, 63}
	if l, is := All(b); !is || !slices.Equal(l, []int{1, 258, api.MaxWord}) {
		t.Errorf("All: %v, %v", l, is)
	}
	for _, b := range [][]byte{nil, {}} {
		if l, is := All(b); !is || len(l) != 0 {
			t.Errorf("All(%#v) = %v, %v", b, l, is)
		}
	}
}

func TestAllLengths(t *testing.T) {
	for size := range 34 {
		l, is := All(roomy(row(size)))
		if is != (size%8 == 0) {
			t.Errorf("All of %d bytes: %v", size, is)
		}
		if want := size / 8; is && len(l) != want || !is && len(l) != 0 {
			t.Errorf("All of %d bytes: %v, %v", size, l, is)
		}
	}
}

func TestAllRefusesNumbers(t *testing.T) {
	for _, top := range []byte{64, 127, 128, 255} {
		for at := range 4 {
			b := row(32)
			b[8*at+7] = top
			if l, is := All(b); is || len(l) != 0 {
				t.Errorf("word %d ends with %d: %v, %v; want none, false", at, top, l, is)
			}
		}
	}
}

func TestZero(t *testing.T) {
	for size := range 34 {
		b := roomy(make([]byte, size))
		if !Zero(b) {
			t.Errorf("Zero of %d zeros is false", size)
		}
		for i := range size {
			for _, x := range []byte{1, 128, 255} {
				b[i] = x
				if Zero(b) {
					t.Errorf("Zero of %d bytes with %d at %d is true", size, x, i)
				}
			}
			b[i] = 0
		}
	}
	if !Zero(nil) || !Zero([]byte{}) {
		t.Error("Zero of nothing is false")
	}
}

// P1.4

func TestNothingHandedInIsChanged(t *testing.T) {
	for _, size := range []int{0, 7, 8, 9, 24, 27} {
		b := roomy(row(size))
		was := slices.Clone(b)
		for at := -1; at < 5; at++ {
			for _, n := range []int{-1, 0, 77, api.MaxWord, api.MaxWord + 1} {
				Put(b, at, n)
			}
			Get(b, at)
		}
		All(b)
		Zero(b)
		if !bytes.Equal(b, was) || !sameSpare(b) {
			t.Errorf("%d bytes became %v", size, b[:cap(b)])
		}
	}
	for _, last := range []int{3, -1} {
		l := []int{1, 2, last, 99}[:3]
		Of(l...)
		if !slices.Equal(l[:4], []int{1, 2, last, 99}) {
			t.Errorf("Of made its numbers %v", l[:4])
		}
	}
}

func TestAnswersAreNewMemory(t *testing.T) {
	b := roomy(row(24))
	was := slices.Clone(b)
	for at := range 3 {
		same, _ := Get(b, at)
		for _, n := range []int{same, 5} {
			out, _ := Put(b, at, n)
			scribble(out)
			if !bytes.Equal(b, was) || !sameSpare(b) {
				t.Fatalf("Put at %d shares memory with what it was given", at)
			}
		}
	}
}

// scribble writes over an answer, its spare room too.
func scribble(b []byte) {
	b = b[:cap(b)]
	for i := range b {
		b[i] = 0xcc
	}
}

func TestNothingIsKept(t *testing.T) {
	b := row(16)
	one, _ := Put(b, 0, 5)
	scribble(b)
	if want := slices.Concat([]byte{5, 0, 0, 0, 0, 0, 0, 0}, row(16)[8:]); !bytes.Equal(one, want) {
		t.Errorf("what Put answered changed with its argument: %v", one)
	}
	l := []int{1, 2}
	first, _ := Of(l...)
	l[0] = 9
	second, _ := Of(1, 2)
	scribble(first)
	if third, _ := Of(1, 2); !bytes.Equal(second, third) {
		t.Errorf("two answers of Of share memory: %v", second)
	}
	x, _ := All(second)
	y, _ := All(second)
	x[0] = 100
	if n, _ := Get(second, 0); n != 1 || !slices.Equal(y, []int{1, 2}) {
		t.Errorf("two answers of All share memory: %v", y)
	}
}

// P1.5

func TestWhatWasPutIsGot(t *testing.T) {
	for _, b := range [][]byte{row(8), row(24), row(29), bytes.Repeat([]byte{255}, 24)} {
		for at := range len(b) / 8 {
			for _, n := range ends() {
				out, e := Put(b, at, n)
				if got, is := Get(out, at); e != api.OK || got != n || !is {
					t.Errorf("put %d at %d, got %d, %v, %v", n, at, got, is, e)
				}
				for other := range len(b) / 8 {
					got, is := Get(out, other)
					was, had := Get(b, other)
					if other != at && (got != was || is != had) {
						t.Errorf("put at %d: word %d was %d, %v, is %d, %v", at, other, was, had, got, is)
					}
				}
			}
		}
	}
}

// P1.6

func TestAllUndoesOf(t *testing.T) {
	l := ends()
	for k := range len(l) + 1 {
		b, e := Of(l[:k]...)
		if e != api.OK || len(b) != 8*k {
			t.Fatalf("Of %d words: %d bytes, %v", k, len(b), e)
		}
		if back, is := All(b); !is || !slices.Equal(back, l[:k]) {
			t.Errorf("All(Of(%v)) = %v, %v", l[:k], back, is)
		}
	}
}

func TestOfUndoesAll(t *testing.T) {
	for _, size := range []int{0, 8, 16, 64, 800} {
		b := row(size)
		l, is := All(b)
		if !is {
			t.Fatalf("All of %d bytes is false", size)
		}
		if back, e := Of(l...); e != api.OK || !bytes.Equal(back, b) {
			t.Errorf("Of(All(%v)) = %v, %v", b, back, e)
		}
	}
}
