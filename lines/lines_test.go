package lines

import (
	"bytes"
	"slices"
	"testing"

	"joist/api"
)

const size = api.LineSize

// row is bytes of many values, none of which follows itself; of up to 256 lines no two are alike.
func row(n int) []byte {
	b := make([]byte, n)
	for i := range n {
		b[i] = byte(i*167 + i/64 + 3)
	}
	return b
}

// full is a line of one byte's value.
func full(x byte) []byte {
	return bytes.Repeat([]byte{x}, size)
}

// to is a change to a line of one byte's value.
func to(number int, x byte) api.Change {
	return api.Change{Line: number, B: full(x)}
}

// of is a change to n bytes, however many make a line.
func of(number, n int) api.Change {
	return api.Change{Line: number, B: row(n)}
}

// with is b with others laid over it from at on.
func with(b []byte, at int, others ...byte) []byte {
	b = slices.Clone(b)
	copy(b[at:], others)
	return b
}

// turned is an image of which each line whose bit is set has one byte turned, a different one in each line.
func turned(image []byte, bits int) []byte {
	image = slices.Clone(image)
	for number := range len(image) / size {
		if bits>>number&1 == 1 {
			image[number*size+number*21%size] ^= 1 << (number % 8)
		}
	}
	return image
}

// wholes are images of no line, one, some, and as many as a device has at most.
func wholes() [][]byte {
	l := [][]byte{nil, {}, make([]byte, 0, size), make([]byte, size), full(255)}
	for _, n := range []int{1, 2, 3, 5, 64, api.MaxLines} {
		l = append(l, row(n*size))
	}
	return l
}

// parts are bytes that are no image, some with spare room up to whole lines.
func parts() [][]byte {
	var l [][]byte
	for _, n := range []int{1, 2, 8, 32, 62, 63, 65, 96, 127, 129, 191, 193, api.MaxLines*size - 1, api.MaxLines*size + 1} {
		l = append(l, row(n), row(n + 256)[:n])
	}
	return l
}

// nones are lists of no changes, one with wrong ones in its spare room.
func nones() [][]api.Change {
	return [][]api.Change{nil, {}, []api.Change{{Line: -1, B: row(size)}, {Line: 0}}[:0]}
}

// deep is a copy of changes in all depths.
func deep(l []api.Change) []api.Change {
	var out []api.Change
	for _, c := range l {
		out = append(out, api.Change{Line: c.Line, B: slices.Clone(c.B)})
	}
	return out
}

// equal holds changes against each other without what is tested.
func equal(a, b []api.Change) bool {
	if len(a) != len(b) {
		return false
	}
	for i := range a {
		if a[i].Line != b[i].Line || string(a[i].B) != string(b[i].B) {
			return false
		}
	}
	return true
}

func diff(t *testing.T, a, b []byte) []api.Change {
	t.Helper()
	l, e := Diff(a, b)
	if e != api.OK {
		t.Fatalf("Diff of %d and %d bytes tells %v", len(a), len(b), e)
	}
	return l
}

func apply(t *testing.T, a []byte, l ...api.Change) []byte {
	t.Helper()
	b, e := Apply(a, l...)
	if e != api.OK {
		t.Fatalf("Apply of %d changes to %d bytes tells %v", len(l), len(a), e)
	}
	return b
}

func applyRefused(t *testing.T, a []byte, l ...api.Change) {
	t.Helper()
	if b, e := Apply(a, l...); b != nil || e != api.ErrArg {
		t.Errorf("Apply of %d changes to %d bytes = %v, %v; want none, ErrArg", len(l), len(a), b, e)
	}
}

// P4.1

func TestLimits(t *testing.T) {
	if api.LineSize != 64 || api.MaxLines != 4096 || api.ErrArg != 1 || api.OK != 0 {
		t.Error("the limits and errors are not the document's")
	}
}

func TestExamples(t *testing.T) {
	zero := make([]byte, 128)
	one := with(zero, 64, 1)
	if l := diff(t, zero, one); !equal(l, []api.Change{{Line: 1, B: one[64:]}}) {
		t.Errorf("byte 64 is 1: Diff = %v", l)
	}
	if l, e := Diff(zero[:64], zero); l != nil || e != api.ErrArg {
		t.Errorf("one line and two: Diff = %v, %v", l, e)
	}
}

func TestDiffOfAllSubsets(t *testing.T) {
	for n := range 7 {
		a := row(n * size)
		for bits := range 1 << n {
			b := turned(a, bits)
			var want []api.Change
			for number := range n {
				if bits>>number&1 == 1 {
					want = append(want, api.Change{Line: number, B: b[number*size : number*size+size]})
				}
			}
			if l := diff(t, a, b); !equal(l, want) {
				t.Fatalf("%d lines, unlike in %b: Diff = %v; want %v", n, bits, l, want)
			}
		}
	}
}

func TestDiffOfEachByte(t *testing.T) {
	for _, a := range [][]byte{make([]byte, size), row(size), row(3 * size), make([]byte, 3*size)} {
		for at := range a {
			for _, by := range []byte{1, 128, 255} {
				b := with(a, at, a[at]^by)
				number := at / size
				if l := diff(t, a, b); !equal(l, []api.Change{{Line: number, B: b[number*size : number*size+size]}}) {
					t.Fatalf("byte %d of %d turned by %d: Diff = %v", at, len(a), by, l)
				}
			}
		}
	}
}

func TestDiffOfLinesEnds(t *testing.T) {
	a := row(3 * size)
	b := with(with(with(a, 63, a[63]+1), 64, a[64]+1), 191, a[191]+1)
	want := []api.Change{{Line: 0, B: b[:64]}, {Line: 1, B: b[64:128]}, {Line: 2, B: b[128:]}}
	if l := diff(t, a, b); !equal(l, want) {
		t.Errorf("Diff = %v; want %v", l, want)
	}
}

func TestDiffOfAlike(t *testing.T) {
	for _, a := range wholes() {
		for _, b := range [][]byte{a, slices.Clone(a), row(len(a) + 100)[:len(a)]} {
			if !bytes.Equal(a, b) {
				continue
			}
			if l, e := Diff(a, b); len(l) != 0 || e != api.OK {
				t.Errorf("%d bytes, alike: Diff = %v, %v", len(a), l, e)
			}
		}
	}
	for _, a := range [][]byte{nil, {}} {
		for _, b := range [][]byte{nil, {}, make([]byte, 0, size)} {
			if l, e := Diff(a, b); len(l) != 0 || e != api.OK {
				t.Errorf("Diff(%#v, %#v) = %v, %v", a, b, l, e)
			}
		}
	}
}

func TestDiffOfAllLines(t *testing.T) {
	// The limit of a device's lines is none of an image's.
	for _, n := range []int{1, 2, 64, api.MaxLines - 1, api.MaxLines, api.MaxLines + 1, 2 * api.MaxLines} {
		a, b := make([]byte, n*size), bytes.Repeat([]byte{7}, n*size)
		l := diff(t, a, b)
		if len(l) != n {
			t.Fatalf("%d lines, all unlike: Diff tells %d", n, len(l))
		}
		for i, c := range l {
			if c.Line != i || !bytes.Equal(c.B, full(7)) {
				t.Fatalf("%d lines, all unlike: change %d is %v", n, i, c)
			}
		}
	}
}

func TestDiffTellsTheSecondsBytes(t *testing.T) {
	a, b := row(2*size), with(row(2*size), 70, 1, 2, 3)
	if l := diff(t, a, b); !equal(l, []api.Change{{Line: 1, B: b[64:]}}) {
		t.Errorf("there: Diff = %v", l)
	}
	if l := diff(t, b, a); !equal(l, []api.Change{{Line: 1, B: a[64:]}}) {
		t.Errorf("back: Diff = %v", l)
	}
}

func TestDiffRefuses(t *testing.T) {
	refused := func(a, b []byte) {
		t.Helper()
		if l, e := Diff(a, b); l != nil || e != api.ErrArg {
			t.Errorf("Diff of %d and %d bytes = %v, %v; want none, ErrArg", len(a), len(b), l, e)
		}
	}
	images, broken := wholes(), parts()
	for _, a := range broken {
		refused(a, a)
		refused(a, slices.Clone(a))
		refused(a, make([]byte, len(a)))
		for _, b := range slices.Concat(images, broken) {
			refused(a, b)
			refused(b, a)
		}
	}
	for _, a := range images {
		for _, b := range images {
			if len(a) != len(b) {
				refused(a, b)
			}
		}
		refused(a, make([]byte, len(a)+size))
		refused(make([]byte, len(a)+size), a)
	}
}

// P4.2

func TestApplyOfNone(t *testing.T) {
	for _, a := range wholes() {
		for _, l := range nones() {
			if b := apply(t, a, l...); !bytes.Equal(b, a) {
				t.Errorf("%d bytes without changes became %v", len(a), b)
			}
		}
		if b := apply(t, a); !bytes.Equal(b, a) {
			t.Errorf("%d bytes without changes became %v", len(a), b)
		}
	}
}

func TestApplyOfOne(t *testing.T) {
	for _, n := range []int{1, 2, 3, 64, api.MaxLines, api.MaxLines + 1} {
		a := row(n * size)
		for _, number := range []int{0, n / 2, n - 1} {
			change := api.Change{Line: number, B: row(size + 9)[9:]}
			if b := apply(t, a, change); !bytes.Equal(b, with(a, number*size, change.B...)) {
				t.Errorf("%d lines, line %d: Apply is wrong", n, number)
			}
		}
	}
}

func TestApplyInAnyOrder(t *testing.T) {
	a := row(4 * size)
	want := slices.Concat(full(1), a[64:128], full(3), full(4))
	for _, l := range [][]api.Change{
		{to(0, 1), to(2, 3), to(3, 4)},
		{to(3, 4), to(2, 3), to(0, 1)},
		{to(2, 3), to(0, 1), to(3, 4)},
		{to(3, 4), to(0, 1), to(2, 3)},
	} {
		if b := apply(t, a, l...); !bytes.Equal(b, want) {
			t.Errorf("Apply of %v = %v; want %v", l, b, want)
		}
	}
}

func TestApplyLaterOverEarlier(t *testing.T) {
	a := row(3 * size)
	for number := range 3 {
		b := apply(t, a, to(number, 1), to(number, 2))
		if !bytes.Equal(b, with(a, number*size, full(2)...)) {
			t.Errorf("line %d, 1 then 2: %v", number, b)
		}
		back := api.Change{Line: number, B: a[number*size : number*size+size]}
		if b := apply(t, a, to(number, 1), back); !bytes.Equal(b, a) {
			t.Errorf("line %d, 1 then as it was: %v", number, b)
		}
		other := (number + 1) % 3
		b = apply(t, a, to(number, 2), to(other, 9), to(number, 1))
		if !bytes.Equal(b, with(with(a, number*size, full(1)...), other*size, full(9)...)) {
			t.Errorf("line %d with line %d between: %v", number, other, b)
		}
	}
}

// wrongs are changes that are none of an image of n lines.
func wrongs(n int) []api.Change {
	l := []api.Change{{Line: n}, {Line: -1}}
	for _, number := range []int{-1, -2, -n - 1, -size, api.MinInt, api.MinInt + 1, api.MinInt / size, -1 << 58, -1 << 32, n, n + 1, 2*n + 1, n * size, n*size + 1, 1 << 32, 1 << 58, 1<<58 + 1, 1 << 62, api.MaxInt / size, api.MaxInt/size + 1, api.MaxInt - 1, api.MaxInt} {
		if number < 0 || number >= n {
			l = append(l, to(number, 9))
		}
	}
	for number := range min(n, 3) {
		l = append(l, api.Change{Line: number}, api.Change{Line: number, B: []byte{}}, api.Change{Line: number, B: row(size)[:0]}, api.Change{Line: number, B: row(size)[:63]})
		for _, length := range []int{1, 8, 63, 65, 72, 127, 128, 192, n*size + 1} {
			l = append(l, of(number, length))
		}
	}
	return l
}

func TestApplyRefusesChanges(t *testing.T) {
	for _, n := range []int{0, 1, 2, 3, 64} {
		a := row(n * size)
		for _, wrong := range wrongs(n) {
			applyRefused(t, a, wrong)
			applyRefused(t, a, wrong, wrong)
			if n > 0 {
				applyRefused(t, a, to(0, 1), wrong)
				applyRefused(t, a, wrong, to(0, 1))
				applyRefused(t, a, to(n-1, 1), wrong, to(0, 1))
			}
		}
	}
	for _, a := range [][]byte{nil, {}, make([]byte, 0, 2*size)} {
		applyRefused(t, a, to(0, 1))
	}
}

func TestApplyRefusesParts(t *testing.T) {
	for _, a := range parts() {
		applyRefused(t, a)
		applyRefused(t, a, []api.Change{}...)
		applyRefused(t, a, to(0, 1))
		applyRefused(t, a, to(len(a)/size, 1))
		applyRefused(t, a, to(-1, 1))
		applyRefused(t, a, of(0, 1))
	}
}

// P4.3

func TestRight(t *testing.T) {
	for _, c := range []struct {
		n    int
		l    []api.Change
		want bool
	}{
		{1, []api.Change{to(0, 1)}, true},
		{2, []api.Change{to(0, 1)}, true},
		{2, []api.Change{to(1, 1)}, true},
		{1, []api.Change{to(1, 1)}, false},
		{2, []api.Change{to(2, 1)}, false},
		{3, []api.Change{to(0, 1), to(1, 1), to(2, 1)}, true},
		{3, []api.Change{to(0, 1), to(2, 1)}, true},
		{2, []api.Change{to(0, 1), to(2, 1)}, false},
		{4, []api.Change{to(1, 1), to(3, 1)}, true},
		{4, []api.Change{to(1, 1), to(1, 1)}, false},
		{4, []api.Change{to(0, 1), to(0, 2)}, false},
		{4, []api.Change{to(1, 1), to(0, 1)}, false},
		{4, []api.Change{to(0, 1), to(2, 1), to(1, 1)}, false},
		{4, []api.Change{to(0, 1), to(2, 1), to(2, 1)}, false},
		{4, []api.Change{to(1, 1), to(0, 1), to(2, 1)}, false},
		{4, []api.Change{to(1, 1), to(0, 1), to(3, 1), to(2, 1)}, false},
		{api.MaxLines, []api.Change{to(api.MaxLines-1, 1)}, true},
		{api.MaxLines, []api.Change{to(api.MaxLines, 1)}, false},
		{api.MaxLines + 1, []api.Change{to(api.MaxLines, 1)}, true},
		{api.MaxInt, []api.Change{to(0, 1), to(1<<58, 1), to(api.MaxInt-1, 1)}, true},
		{api.MaxInt, []api.Change{to(api.MaxInt, 1)}, false},
		{api.MaxInt, []api.Change{to(api.MinInt, 1)}, false},
		{api.MaxInt, []api.Change{to(-1, 1)}, false},
		{api.MaxInt, []api.Change{to(-2, 1), to(0, 1)}, false},
	} {
		if is := Right(c.n, c.l); is != c.want {
			t.Errorf("Right(%d, %v) = %v", c.n, c.l, is)
		}
	}
}

func TestRightOfNone(t *testing.T) {
	for _, n := range []int{api.MinInt, -1, 0, 1, 2, api.MaxLines, api.MaxLines + 1, api.MaxInt} {
		for _, l := range nones() {
			if !Right(n, l) {
				t.Errorf("Right(%d, %#v) is false", n, l)
			}
		}
	}
}

func TestRightOfNoLines(t *testing.T) {
	for _, n := range []int{0, -1, -2, -64, api.MinInt, api.MinInt + 1} {
		for _, number := range []int{0, 1, -1, -2, -3, n, n - 1, n + 1, api.MaxInt, api.MinInt} {
			if Right(n, []api.Change{to(number, 1)}) {
				t.Errorf("line %d is right for %d lines", number, n)
			}
		}
	}
}

func TestRightRefuses(t *testing.T) {
	for _, n := range []int{0, 1, 2, 3, 64} {
		for _, wrong := range wrongs(n) {
			for _, l := range [][]api.Change{{wrong}, {to(0, 1), wrong}, {wrong, to(n-1, 1)}} {
				if Right(n, l) {
					t.Errorf("Right(%d, %v) is true", n, l)
				}
			}
		}
	}
	for _, length := range []int{0, 1, 63, 65, 128} {
		for at := range 3 {
			l := []api.Change{to(0, 1), to(1, 1), to(2, 1)}
			l[at].B = row(length)
			if Right(3, l) {
				t.Errorf("change %d of %d bytes is right", at, length)
			}
		}
	}
}

func TestRightOfAllRows(t *testing.T) {
	// Each row of three lines from -1 to 4, for each n: what the words ask for, counted out.
	for n := -1; n < 5; n++ {
		for code := range 6 * 6 * 6 {
			x, y, z := code%6-1, code/6%6-1, code/36-1
			want := 0 <= x && x < y && y < z && z < n
			if is := Right(n, []api.Change{to(x, 1), to(y, 1), to(z, 1)}); is != want {
				t.Errorf("Right(%d, lines %d %d %d) = %v", n, x, y, z, is)
			}
		}
	}
}

func TestSame(t *testing.T) {
	lists := [][]api.Change{
		nil,
		{to(0, 1)},
		{to(1, 1)},
		{to(-1, 1)},
		{to(api.MaxInt, 1)},
		{to(api.MinInt, 1)},
		{to(0, 2)},
		{{Line: 0, B: with(full(1), 0, 2)}},
		{{Line: 0, B: with(full(1), 32, 2)}},
		{{Line: 0, B: with(full(1), 63, 2)}},
		{to(0, 1), to(0, 1)},
		{to(0, 1), to(1, 1)},
		{to(1, 1), to(0, 1)},
		{to(0, 1), to(1, 2)},
		{to(0, 2), to(1, 1)},
		{to(0, 1), to(1, 1), to(2, 1)},
		{to(0, 1), to(2, 1), to(1, 1)},
		{{}},
		{{Line: 1}},
		{{}, {}},
		{{Line: 0, B: full(1)[:63]}},
		{{Line: 0, B: append(full(1), 1)}},
		{{Line: 0, B: append(full(1), 0)}},
		{{Line: 0, B: make([]byte, 64)}},
	}
	for i, a := range lists {
		for k, b := range lists {
			if is := Same(a, b); is != (i == k) {
				t.Errorf("Same(%v, %v) = %v", a, b, is)
			}
			if is := Same(deep(a), b); is != (i == k) {
				t.Errorf("Same(copy of %v, %v) = %v", a, b, is)
			}
		}
	}
}

func TestSameOfNone(t *testing.T) {
	for _, a := range nones() {
		for _, b := range nones() {
			if !Same(a, b) {
				t.Errorf("Same(%#v, %#v) is false", a, b)
			}
		}
		for _, b := range [][]api.Change{{{}}, {to(0, 0)}, {to(0, 1), to(1, 1)}} {
			if Same(a, b) || Same(b, a) {
				t.Errorf("%#v is the same as %v", a, b)
			}
		}
	}
	nothing := []api.Change{{Line: 3}}
	if !Same(nothing, []api.Change{{Line: 3, B: []byte{}}}) || !Same([]api.Change{{Line: 3, B: full(1)[:0]}}, nothing) {
		t.Error("a nil list of bytes is not the same as an empty one")
	}
}

func TestSameOfEachByte(t *testing.T) {
	a := []api.Change{{Line: 2, B: row(size)}, {Line: 5, B: row(size)}}
	for i := range a {
		for at := range size {
			b := deep(a)
			b[i].B[at] ^= 1
			if Same(a, b) || Same(b, a) {
				t.Errorf("change %d, byte %d turned: the same", i, at)
			}
		}
	}
}

// P4.4

// spareOf is how many bytes or changes stand behind those that are handed in.
const spareOf = 70

// roomy is a copy of b with spare room behind it, all of its bytes 0xee.
func roomy(b []byte) []byte {
	all := make([]byte, len(b)+spareOf)
	for i := range all[copy(all, b):] {
		all[len(b)+i] = 0xee
	}
	return all[:len(b)]
}

// roomyChanges are copies of changes with spare room behind the list and behind each one's bytes.
func roomyChanges(l []api.Change) []api.Change {
	all := make([]api.Change, 0, len(l)+spareOf)
	for _, c := range l {
		all = append(all, api.Change{Line: c.Line, B: roomy(c.B)})
	}
	for range spareOf {
		all = append(all, to(77, 0xee))
	}
	return all[:len(l)]
}

func untouched(b, was []byte) bool {
	return bytes.Equal(b, was) && bytes.Equal(b[len(b):cap(b)], bytes.Repeat([]byte{0xee}, spareOf))
}

func untouchedChanges(l, was []api.Change) bool {
	if !equal(l, was) {
		return false
	}
	for i, c := range l {
		if !untouched(c.B, was[i].B) {
			return false
		}
	}
	for _, c := range l[len(l) : len(l)+spareOf] {
		if !equal([]api.Change{c}, []api.Change{to(77, 0xee)}) {
			return false
		}
	}
	return true
}

// scribble writes over bytes, their spare room too.
func scribble(b []byte) {
	b = b[:cap(b)]
	for i := range b {
		b[i] = 0xcc
	}
}

// scribbleChanges writes over changes in all depths.
func scribbleChanges(l []api.Change) {
	for _, c := range l {
		scribble(c.B)
	}
	l = l[:cap(l)]
	for i := range l {
		l[i] = to(99, 0xcc)
	}
}

func TestNothingHandedInIsChanged(t *testing.T) {
	pairs := [][2][]byte{{nil, nil}, {nil, row(64)}, {row(63), row(63)}, {row(192), turned(row(192), 5)}, {row(192), row(192)}, {make([]byte, 64), full(1)}, {row(65), row(64)}}
	for _, p := range pairs {
		a, b := roomy(p[0]), roomy(p[1])
		Diff(a, b)
		if !untouched(a, p[0]) || !untouched(b, p[1]) {
			t.Errorf("Diff changed %v or %v", p[0], p[1])
		}
	}
	lists := [][]api.Change{nil, {to(0, 1)}, {to(2, 1), to(0, 2), to(2, 3)}, {to(0, 1), to(3, 1)}, {to(-1, 1)}, {to(0, 1), of(1, 63)}, {of(1, 65), to(0, 1)}, {{}}}
	for _, was := range lists {
		for _, image := range [][]byte{nil, row(64), row(192), row(190)} {
			a, l := roomy(image), roomyChanges(was)
			Apply(a, l...)
			Right(3, l)
			Right(-1, l)
			for _, other := range lists {
				Same(l, other)
				Same(other, l)
			}
			if !untouched(a, image) || !untouchedChanges(l, was) {
				t.Errorf("%v over %d bytes: what was handed in is changed", was, len(image))
			}
		}
	}
}

func TestAnswersAreNewMemory(t *testing.T) {
	for _, n := range []int{0, 1, 2, 5} {
		image := row(n * size)
		for _, other := range [][]byte{image, turned(image, 5), make([]byte, n*size)} {
			a, b := roomy(image), roomy(other)
			scribbleChanges(diff(t, a, b))
			if !untouched(a, image) || !untouched(b, other) {
				t.Errorf("Diff of %d lines shares memory with what it was given", n)
			}
		}
		var was []api.Change
		for number := range n {
			was = append(was, to(number, byte(number)))
		}
		for k := range len(was) + 1 {
			a, l := roomy(image), roomyChanges(was[:k])
			scribble(apply(t, a, l...))
			if !untouched(a, image) || !untouchedChanges(l, was[:k]) {
				t.Errorf("Apply of %d changes to %d lines shares memory with what it was given", k, n)
			}
		}
	}
}

func TestListsOfOneAnswerShareNothing(t *testing.T) {
	a, b := make([]byte, 6*size), row(6*size)
	want := diff(t, a, b)
	for i := range want {
		l := diff(t, a, b)
		scribble(l[i].B)
		for k := range l {
			if k != i && (l[k].Line != k || !bytes.Equal(l[k].B, b[k*size:k*size+size])) {
				t.Errorf("changes %d and %d share memory", i, k)
			}
		}
		l = diff(t, a, b)
		if longer := append(l[i].B, 0xcc); len(longer) != size+1 || !equal(l, want) {
			t.Errorf("what is put behind change %d is in another one", i)
		}
	}
}

func TestNothingIsKept(t *testing.T) {
	image, other := row(4*size), turned(row(4*size), 11)
	a, b := roomy(image), roomy(other)
	first, second := diff(t, a, b), diff(t, a, b)
	want := deep(first)
	scribble(a)
	scribble(b)
	if !equal(first, want) {
		t.Error("what Diff answered changed with its arguments")
	}
	scribbleChanges(second)
	if !equal(first, want) || !equal(diff(t, image, other), want) {
		t.Error("two answers of Diff share memory")
	}
	a, l := roomy(image), roomyChanges(want)
	laid, again := apply(t, a, l...), apply(t, a, l...)
	scribble(a)
	scribbleChanges(l)
	if !bytes.Equal(laid, other) {
		t.Error("what Apply answered changed with its arguments")
	}
	scribble(again)
	if !bytes.Equal(laid, other) || !bytes.Equal(apply(t, image, want...), other) {
		t.Error("two answers of Apply share memory")
	}
}

func TestArgumentsThatShareMemory(t *testing.T) {
	image := row(3 * size)
	a := slices.Clone(image)
	// Lines 0 and 1 change places: each is laid as it was handed in.
	b := apply(t, a, api.Change{Line: 0, B: a[64:128]}, api.Change{Line: 1, B: a[:64]}, api.Change{Line: 2, B: a[32:96]})
	if !bytes.Equal(b, slices.Concat(image[64:128], image[:64], image[32:96])) || !bytes.Equal(a, image) {
		t.Errorf("Apply of an image's own lines = %v", b)
	}
	l := diff(t, a[:128], a[64:])
	if !equal(l, []api.Change{{Line: 0, B: image[64:128]}, {Line: 1, B: image[128:]}}) || !bytes.Equal(a, image) {
		t.Errorf("Diff of images that overlap = %v", l)
	}
	changes := []api.Change{to(0, 1), to(1, 1), to(1, 1)}
	if Same(changes[:2], changes[1:]) || !Same(changes[1:2], changes[2:]) {
		t.Error("Same of lists that overlap is wrong")
	}
}

// P4.5

func TestApplyOfDiffIsTheOther(t *testing.T) {
	for n := range 6 {
		for _, a := range [][]byte{row(n * size), make([]byte, n*size), bytes.Repeat([]byte{255}, n*size)} {
			for bits := range 1 << n {
				for _, b := range [][]byte{turned(a, bits), turned(row(n*size), bits)} {
					l := diff(t, a, b)
					if !Right(n, l) {
						t.Errorf("what Diff tells of %d lines is not right: %v", n, l)
					}
					if out := apply(t, a, l...); !bytes.Equal(out, b) {
						t.Errorf("%d lines, unlike in %b: Apply of Diff is not the other", n, bits)
					}
					if out := apply(t, b, diff(t, b, a)...); !bytes.Equal(out, a) {
						t.Errorf("%d lines, unlike in %b: there is no way back", n, bits)
					}
				}
			}
		}
	}
	a, b := row(api.MaxLines*size), make([]byte, api.MaxLines*size)
	l := diff(t, a, b)
	if !Right(api.MaxLines, l) || Right(api.MaxLines-1, l) || !bytes.Equal(apply(t, a, l...), b) {
		t.Error("of as many lines as a device has: Apply of Diff is not the other")
	}
}

func TestDiffTellsNoMoreThanIsNeeded(t *testing.T) {
	a := row(5 * size)
	for bits := range 1 << 5 {
		b := turned(a, bits)
		l := diff(t, a, b)
		for i := range l {
			without := slices.Delete(deep(l), i, i+1)
			if bytes.Equal(apply(t, a, without...), b) {
				t.Errorf("unlike in %b: change %d is none", bits, i)
			}
		}
		if again := diff(t, a, apply(t, a, l...)); !Same(l, again) {
			t.Errorf("unlike in %b: Diff of what Apply made is %v; want %v", bits, again, l)
		}
	}
}

// P4.6

func TestLaidTwice(t *testing.T) {
	image := row(3 * size)
	// Each list of three changes of three lines, each one's bytes another's.
	for code := range 4 * 4 * 4 {
		var l []api.Change
		for i, number := range []int{code % 4, code / 4 % 4, code / 16} {
			if number < 3 {
				l = append(l, to(number, byte(i+1)))
			}
		}
		once := apply(t, image, l...)
		if twice := apply(t, once, l...); !bytes.Equal(twice, once) {
			t.Errorf("%v laid over what it made is %v; want %v", l, twice, once)
		}
		if twice := apply(t, image, slices.Concat(l, l)...); !bytes.Equal(twice, once) {
			t.Errorf("%v laid twice in one call is %v; want %v", l, twice, once)
		}
		one := image
		for _, c := range l {
			one = apply(t, one, c)
		}
		if !bytes.Equal(one, once) {
			t.Errorf("%v laid one by one is %v; want %v", l, one, once)
		}
	}
	if twice := apply(t, apply(t, nil), nil...); len(twice) != 0 {
		t.Errorf("nothing laid over nothing is %v", twice)
	}
}
