package crc

import (
	"bytes"
	"hash/crc32"
	"slices"
	"testing"

	"joist/api"
	"joist/words"
)

const most = 1<<32 - 1

// row is bytes of many values, none of which follows itself.
func row(n int) []byte {
	b := make([]byte, n)
	for i := range n {
		b[i] = byte(i*167 + i/256 + 3)
	}
	return b
}

// samples are bytes of many lengths and values, none and nil among them.
func samples() [][]byte {
	l := [][]byte{nil, {}, {0}, {1}, {128}, {255}, []byte("a"), []byte("123456789"), make([]byte, 7), make([]byte, 8), make([]byte, 64), bytes.Repeat([]byte{255}, 9)}
	for _, n := range []int{2, 3, 7, 8, 9, 15, 16, 17, 63, 64, 65, 300} {
		l = append(l, row(n))
	}
	return l
}

const spare = 40

// roomy is b with spare room behind it, all of its bytes 0xee.
func roomy(b []byte) []byte {
	all := make([]byte, len(b)+spare)
	for i := range all[copy(all, b):] {
		all[len(b)+i] = 0xee
	}
	return all[:len(b)]
}

func sameSpare(b []byte) bool {
	return bytes.Equal(b[len(b):cap(b)], bytes.Repeat([]byte{0xee}, spare))
}

// scribble writes over bytes, their spare room too.
func scribble(b []byte) {
	b = b[:cap(b)]
	for i := range b {
		b[i] = 0xcc
	}
}

// sealed is b with a number behind it, in eight bytes, whatever it is.
func sealed(b []byte, n uint64) []byte {
	out := slices.Clone(b)
	for i := range 8 {
		out = append(out, byte(n>>(8*i)))
	}
	return out
}

// P2.1

func TestSum(t *testing.T) {
	for _, c := range []struct {
		b    []byte
		want int
	}{
		{[]byte("123456789"), 3421780262},
		{nil, 0},
		{[]byte{}, 0},
		{[]byte{0}, 0xd202ef8d},
		{[]byte{255}, 0xff000000},
		{[]byte{255, 255, 255, 255}, most},
		{[]byte{0x9d, 0x0a, 0xd9, 0x6d}, 0},
		{[]byte("a"), 0xe8b7be43},
	} {
		if n := Sum(c.b); n != c.want {
			t.Errorf("Sum(%v) = %d; want %d", c.b, n, c.want)
		}
	}
}

func TestSumOfEachByte(t *testing.T) {
	for x := range 256 {
		for _, b := range [][]byte{{byte(x)}, {0, byte(x)}, {byte(x), 0, 255}} {
			if n := Sum(b); n != int(crc32.ChecksumIEEE(b)) {
				t.Errorf("Sum(%v) = %d", b, n)
			}
		}
	}
}

func TestSumOfManyBytes(t *testing.T) {
	for n := range 400 {
		b := row(n)
		if sum := Sum(roomy(b)); sum != int(crc32.ChecksumIEEE(b)) {
			t.Errorf("Sum of %d bytes = %d", n, sum)
		}
	}
	b := row(1 << 20)
	if sum := Sum(b); sum != int(crc32.ChecksumIEEE(b)) {
		t.Errorf("Sum of 2^20 bytes = %d", sum)
	}
}

func TestAdd(t *testing.T) {
	for _, sum := range []int{0, 1, 2, 255, 256, 3421780262, 1<<31 - 1, 1 << 31, 1<<31 + 1, most - 1, most} {
		for _, b := range samples() {
			want := int(crc32.Update(uint32(sum), crc32.IEEETable, b))
			if n, e := Add(sum, b); n != want || e != api.OK {
				t.Errorf("Add(%d, %v) = %d, %v; want %d, OK", sum, b, n, e, want)
			}
		}
	}
}

func TestAddOfNoBytesIsTheSumItself(t *testing.T) {
	for _, sum := range []int{0, 1, 3421780262, 1 << 31, most - 1, most} {
		for _, b := range [][]byte{nil, {}} {
			if n, e := Add(sum, b); n != sum || e != api.OK {
				t.Errorf("Add(%d, %#v) = %d, %v", sum, b, n, e)
			}
		}
	}
}

func TestAddRefusesNumbers(t *testing.T) {
	for _, sum := range []int{-1, -2, -256, -most, -1 << 32, api.MinInt, api.MinInt + 1, most + 1, most + 2, 1 << 33, 3421780262 + 1<<32, api.MaxWord, api.MaxInt - 1, api.MaxInt} {
		for _, b := range samples() {
			if n, e := Add(sum, b); n != 0 || e != api.ErrNum {
				t.Errorf("Add(%d, %v) = %d, %v; want 0, ErrNum", sum, b, n, e)
			}
		}
	}
}

func TestAddIsTheSameOfAllBytesWithOneSum(t *testing.T) {
	// Four chosen bytes bring any bytes to one sum: behind each front stand those that make its sum 0.
	for _, front := range samples() {
		zero := slices.Concat(front, toZero(Sum(front)))
		if n := Sum(zero); n != 0 {
			t.Fatalf("Sum(%v) = %d; want 0", zero, n)
		}
		for _, b := range samples() {
			if n, e := Add(0, b); e != api.OK || n != Sum(slices.Concat(zero, b)) {
				t.Errorf("%v behind %v: Add(0, b) = %d, %v; want %d", b, zero, n, e, Sum(slices.Concat(zero, b)))
			}
		}
	}
}

// toZero are four bytes that make 0 of a sum: the register is stepped back from its end, then held against its beginning.
func toZero(sum int) []byte {
	register := uint32(most)
	for range 32 {
		if register>>31 == 1 {
			register = (register^0xedb88320)<<1 | 1
		} else {
			register <<= 1
		}
	}
	register ^= ^uint32(sum)
	return []byte{byte(register), byte(register >> 8), byte(register >> 16), byte(register >> 24)}
}

// P2.2

func TestSeal(t *testing.T) {
	for _, c := range []struct {
		b    []byte
		want string
	}{
		{nil, "\x00\x00\x00\x00\x00\x00\x00\x00"},
		{[]byte{}, "\x00\x00\x00\x00\x00\x00\x00\x00"},
		{[]byte("a"), "a\x43\xbe\xb7\xe8\x00\x00\x00\x00"},
		{[]byte("123456789"), "123456789\x26\x39\xf4\xcb\x00\x00\x00\x00"},
		{[]byte{255, 255, 255, 255}, "\xff\xff\xff\xff\xff\xff\xff\xff\x00\x00\x00\x00"},
	} {
		if out := Seal(c.b); string(out) != c.want {
			t.Errorf("Seal(%v) = %v; want %v", c.b, out, []byte(c.want))
		}
	}
}

func TestSealedIsFrontAndWord(t *testing.T) {
	for _, b := range samples() {
		word, _ := words.Of(Sum(b))
		if out := Seal(roomy(b)); !bytes.Equal(out, slices.Concat(b, word)) {
			t.Errorf("Seal(%v) = %v", b, out)
		}
	}
}

func TestOpen(t *testing.T) {
	for _, b := range samples() {
		if out, is := Open(roomy(sealed(b, uint64(crc32.ChecksumIEEE(b))))); !is || !bytes.Equal(out, b) {
			t.Errorf("Open(%v, sealed) = %v, %v", b, out, is)
		}
	}
}

func TestOpenOfFewBytes(t *testing.T) {
	if out, is := Open(nil); len(out) != 0 || is {
		t.Errorf("Open(nil) = %v, %v", out, is)
	}
	for n := range 8 {
		for _, b := range [][]byte{make([]byte, n), roomy(make([]byte, n)), row(n), make([]byte, 8)[:n]} {
			if out, is := Open(b); len(out) != 0 || is {
				t.Errorf("Open(%v) = %v, %v; want none, false", b, out, is)
			}
		}
	}
}

func TestOpenOfEightBytes(t *testing.T) {
	if out, is := Open(make([]byte, 8)); len(out) != 0 || !is {
		t.Errorf("Open of eight zeros = %v, %v; want none, true", out, is)
	}
	for i := range 8 {
		for _, x := range []byte{1, 64, 128, 255} {
			b := make([]byte, 8)
			b[i] = x
			if out, is := Open(b); len(out) != 0 || is {
				t.Errorf("Open(%v) = %v, %v; want none, false", b, out, is)
			}
		}
	}
}

func TestOpenRefusesOtherNumbers(t *testing.T) {
	for _, b := range samples() {
		sum := uint64(crc32.ChecksumIEEE(b))
		for _, n := range []uint64{sum + 1, sum - 1, ^sum, sum ^ most, sum | 1<<32, sum | 1<<61, sum | 1<<62, sum | 1<<63, sum | most<<32, sum << 32, 1 << 62, 1<<62 - 1, 1 << 63, 1<<64 - 1} {
			if n == sum {
				continue
			}
			if out, is := Open(sealed(b, n)); len(out) != 0 || is {
				t.Errorf("Open(%v with %d behind it) = %v, %v; want none, false", b, n, out, is)
			}
		}
	}
}

func TestOpenRefusesANumberAboveMaxWordBehindASumOfZero(t *testing.T) {
	// The front's sum is 0, as what a word above MaxWord is got as.
	for _, front := range [][]byte{nil, {0x9d, 0x0a, 0xd9, 0x6d}} {
		for _, n := range []uint64{1 << 62, 1 << 63, 1<<64 - 1} {
			if out, is := Open(sealed(front, n)); len(out) != 0 || is {
				t.Errorf("Open(%v with %d behind it) = %v, %v; want none, false", front, n, out, is)
			}
		}
	}
}

func TestOpenRefusesTheOtherOrderOfBytes(t *testing.T) {
	b := Seal([]byte("123456789"))
	slices.Reverse(b[9:])
	if out, is := Open(b); len(out) != 0 || is {
		t.Errorf("Open(%v) = %v, %v; want none, false", b, out, is)
	}
}

// P2.3

func TestNothingHandedInIsChanged(t *testing.T) {
	for _, s := range append(samples(), Seal(nil), Seal(row(30))) {
		b := roomy(s)
		Sum(b)
		Add(0, b)
		Add(most, b)
		Add(-1, b)
		Seal(b)
		Open(b)
		if !bytes.Equal(b, s) || !sameSpare(b) {
			t.Errorf("%v became %v", s, b[:cap(b)])
		}
	}
}

func TestAnswersAreNewMemory(t *testing.T) {
	for _, s := range samples() {
		b := roomy(s)
		scribble(Seal(b))
		if !bytes.Equal(b, s) || !sameSpare(b) {
			t.Errorf("Seal(%v) shares memory with what it was given", s)
		}
		shut := Seal(s)
		b = roomy(shut)
		out, _ := Open(b)
		scribble(out)
		if !bytes.Equal(b, shut) || !sameSpare(b) {
			t.Errorf("Open(%v) shares memory with what it was given", shut)
		}
	}
}

func TestNothingIsKept(t *testing.T) {
	for _, s := range samples() {
		b := roomy(s)
		shut, again := Seal(b), Seal(b)
		want := slices.Clone(shut)
		scribble(b)
		scribble(again)
		if !bytes.Equal(shut, want) {
			t.Errorf("what Seal(%v) answered became %v", s, shut)
		}
		if later := Seal(s); !bytes.Equal(later, want) {
			t.Errorf("Seal(%v) is %v now", s, later)
		}
		b = roomy(want)
		open, _ := Open(b)
		again, _ = Open(b)
		scribble(b)
		scribble(again)
		if !bytes.Equal(open, s) {
			t.Errorf("what Open(%v) answered became %v", want, open)
		}
		if later, is := Open(want); !is || !bytes.Equal(later, s) {
			t.Errorf("Open(%v) is %v, %v now", want, later, is)
		}
	}
}

// P2.4

func TestSumOfBytesBehindOthers(t *testing.T) {
	for _, whole := range samples() {
		for at := range len(whole) + 1 {
			if n, e := Add(Sum(whole[:at]), whole[at:]); n != Sum(whole) || e != api.OK {
				t.Errorf("%v, cut at %d: %d, %v; want %d", whole, at, n, e, Sum(whole))
			}
		}
	}
}

func TestSumOfBytesOneByOne(t *testing.T) {
	for _, whole := range samples() {
		sum := 0
		for i := range whole {
			n, e := Add(sum, whole[i:i+1])
			if want := Sum(whole[:i+1]); n != want || e != api.OK {
				t.Fatalf("byte %d of %v: %d, %v; want %d", i, whole, n, e, want)
			}
			sum = n
		}
	}
}

// P2.5

func TestWhatWasSealedOpens(t *testing.T) {
	for n := range 100 {
		b := row(n)
		if out, is := Open(Seal(b)); !is || !bytes.Equal(out, b) {
			t.Errorf("Open(Seal(%v)) = %v, %v", b, out, is)
		}
	}
	if out, is := Open(Seal(nil)); !is || len(out) != 0 {
		t.Errorf("Open(Seal(nil)) = %v, %v", out, is)
	}
	twice := Seal(Seal([]byte("a")))
	once, is := Open(twice)
	if out, still := Open(once); !is || !still || string(out) != "a" {
		t.Errorf("sealed twice: %v, %v, %v", out, is, still)
	}
}

func TestWhatWasTurnedDoesNotOpen(t *testing.T) {
	for _, s := range samples() {
		b := Seal(s)
		for i := range b {
			was := b[i]
			for _, by := range []byte{1, 2, 16, 128, 255} {
				b[i] = was ^ by
				if out, is := Open(b); is || len(out) != 0 {
					t.Errorf("%v, byte %d turned by %d: %v, %v", s, i, by, out, is)
				}
			}
			b[i] = was
		}
	}
}

func TestEachTurnOfAByte(t *testing.T) {
	b := Seal([]byte("123456789"))
	for i := range 9 {
		was := b[i]
		for x := range 256 {
			b[i] = byte(x)
			if out, is := Open(b); is != (byte(x) == was) || !is && len(out) != 0 {
				t.Errorf("byte %d is %d: %v, %v", i, x, out, is)
			}
		}
		b[i] = was
	}
}
