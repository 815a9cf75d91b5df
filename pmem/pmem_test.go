package pmem

import (
	"bytes"
	"slices"
	"testing"

	"joist/api"
)

// row is bytes of many values, none of which follows itself, and no two lines of which are alike.
func row(n int) []byte {
	b := make([]byte, n)
	for i := range n {
		b[i] = byte(i*167 + i/64 + 3)
	}
	return b
}

const spare = 130

// roomy is b with spare room behind it, all of its bytes 0xee.
func roomy(b []byte) []byte {
	all := make([]byte, len(b)+spare)
	for i := range all[copy(all, b):] {
		all[len(b)+i] = 0xee
	}
	return all[:len(b)]
}

func sameSpare(b []byte) bool {
	return bytes.Equal(b[len(b):cap(b)], bytes.Repeat([]byte{0xee}, spare))
}

// scribble writes over bytes, their spare room too.
func scribble(b []byte) {
	b = b[:cap(b)]
	for i := range b {
		b[i] = 0xcc
	}
}

// with is b with others laid over it from at on.
func with(b []byte, at int, others ...byte) []byte {
	b = slices.Clone(b)
	copy(b[at:], others)
	return b
}

func device(t *testing.T, image []byte) *Device {
	t.Helper()
	d, e := New(image)
	if d == nil || e != api.OK {
		t.Fatalf("New of %d bytes: %v", len(image), e)
	}
	return d
}

// told holds what a call told against what it should have told.
func told(t *testing.T, call string, e, want api.Errno) {
	t.Helper()
	if e != want {
		t.Errorf("%s tells %v; want %v", call, e, want)
	}
}

// all holds everything that a device shows, but for what it is armed with, against what is wanted.
func all(t *testing.T, d *Device, image, view []byte, dirty []int, down bool) {
	t.Helper()
	if n := d.Lines(); n != len(image)/64 {
		t.Errorf("Lines() = %d; want %d", n, len(image)/64)
	}
	if b := d.Image(); !bytes.Equal(b, image) {
		t.Errorf("Image() = %v; want %v", b, image)
	}
	if b := d.View(); !bytes.Equal(b, view) {
		t.Errorf("View() = %v; want %v", b, view)
	}
	if l := d.Dirty(); !slices.Equal(l, dirty) {
		t.Errorf("Dirty() = %v; want %v", l, dirty)
	}
	if is := d.Down(); is != down {
		t.Errorf("Down() = %v; want %v", is, down)
	}
	b, e := d.Load(0, len(view))
	if down && (len(b) != 0 || e != api.ErrDown) || !down && (!bytes.Equal(b, view) || e != api.OK) {
		t.Errorf("Load of all = %v, %v", b, e)
	}
}

// reach are an at and an n on a device of size bytes, and whether they reach.
type reach struct {
	at, n int
	is    bool
}

// reaches are pairs around a device's ends, and around the ends of numbers.
func reaches(size int) []reach {
	var l []reach
	for _, at := range []int{api.MinInt, api.MinInt + 1, -size, -64, -1, 0, 1, 63, 64, 65, size - 65, size - 64, size - 1, size, size + 1, size + 64, api.MaxInt - 1, api.MaxInt} {
		for _, n := range []int{api.MinInt, api.MinInt + 1, -size, -1, 0, 1, 2, 63, 64, 65, size - 1, size, size + 1, api.MaxInt - size, api.MaxInt - 1, api.MaxInt} {
			l = append(l, reach{at, n, within(at, size) && within(n, size) && within(at+n, size)})
		}
		if within(at, size) {
			l = append(l, reach{at, size - at, true}, reach{at, size - at + 1, false}, reach{at, api.MaxInt - at, false}, reach{at, api.MaxInt - at + 1, false})
		}
	}
	return l
}

func within(n, size int) bool {
	return n >= 0 && n <= size
}

// P3.1

func TestNew(t *testing.T) {
	for _, n := range []int{1, 2, 3, 63, 64, 65, api.MaxLines - 1, api.MaxLines} {
		image := row(n * api.LineSize)
		d := device(t, image)
		all(t, d, image, image, nil, false)
	}
	for _, n := range []int{-1, 1, 63} {
		for _, lines := range []int{1, 2, 64, api.MaxLines - 1, api.MaxLines, api.MaxLines + 1} {
			refused(t, row(lines*api.LineSize+n))
		}
	}
	refused(t, nil)
	refused(t, []byte{})
	refused(t, make([]byte, 0, 64))
	refused(t, make([]byte, 1, 64))
	refused(t, make([]byte, (api.MaxLines+1)*api.LineSize))
	refused(t, make([]byte, 2*api.MaxLines*api.LineSize))
}

func refused(t *testing.T, image []byte) {
	t.Helper()
	if d, e := New(image); d != nil || e != api.ErrArg {
		t.Errorf("New of %d bytes = %v, %v", len(image), d, e)
	}
}

func TestLimits(t *testing.T) {
	if api.LineSize != 64 || api.MaxLines != 4096 || api.ErrArg != 1 || api.ErrDown != 5 {
		t.Error("the limits and errors are not the document's")
	}
}

func TestNewIsNotArmed(t *testing.T) {
	d := device(t, row(128))
	for range 100 {
		told(t, "Store", d.Store(0, []byte{1}), api.OK)
		told(t, "Flush", d.Flush(0, 128), api.OK)
		told(t, "Fence", d.Fence(), api.OK)
	}
	all(t, d, with(row(128), 0, 1), with(row(128), 0, 1), nil, false)
}

func TestDirtyRises(t *testing.T) {
	for range 50 {
		d := device(t, row(64*64))
		var want []int
		for i := range 40 {
			n := i * 37 % 64
			told(t, "Store", d.Store(n*64+i, []byte{9}), api.OK)
			want = append(want, n)
			slices.Sort(want)
			if l := d.Dirty(); !slices.Equal(l, want) {
				t.Fatalf("Dirty() = %v; want %v", l, want)
			}
		}
	}
}

func TestShownWithoutPower(t *testing.T) {
	image := row(192)
	d := device(t, image)
	told(t, "Store", d.Store(70, []byte{1, 2}), api.OK)
	d.Arm(1)
	told(t, "Store", d.Store(0, []byte{9}), api.ErrDown)
	all(t, d, image, with(image, 70, 1, 2), []int{1}, true)
}

// P3.2

func TestExamples(t *testing.T) {
	zero := make([]byte, 128)
	d := device(t, zero)
	told(t, "Store", d.Store(0, []byte{1}), api.OK)
	all(t, d, zero, with(zero, 0, 1), []int{0}, false)
	d.Crash(nil)
	all(t, d, zero, zero, nil, false)

	told(t, "Store", d.Store(0, []byte{1}), api.OK)
	told(t, "Flush", d.Flush(0, 1), api.OK)
	told(t, "Fence", d.Fence(), api.OK)
	d.Crash(nil)
	all(t, d, with(zero, 0, 1), with(zero, 0, 1), nil, false)

	d = device(t, zero)
	d.Arm(1)
	told(t, "Store", d.Store(0, []byte{1}), api.ErrDown)
	all(t, d, zero, zero, nil, true)
}

func TestLoad(t *testing.T) {
	image := row(192)
	d := device(t, image)
	told(t, "Store", d.Store(60, []byte{1, 2, 3, 4, 5, 6}), api.OK)
	view := with(image, 60, 1, 2, 3, 4, 5, 6)
	for at := range 193 {
		for n := range 193 - at {
			if b, e := d.Load(at, n); !bytes.Equal(b, view[at:at+n]) || e != api.OK {
				t.Fatalf("Load(%d, %d) = %v, %v", at, n, b, e)
			}
		}
	}
	all(t, d, image, view, []int{0, 1}, false)
}

func TestReach(t *testing.T) {
	for _, lines := range []int{1, 2, 3} {
		image := row(lines * 64)
		view := with(image, 5, 9)
		for _, r := range reaches(len(image)) {
			d := device(t, image)
			told(t, "Store", d.Store(5, []byte{9}), api.OK)
			want := api.ErrArg
			if r.is {
				want = api.OK
			}
			b, e := d.Load(r.at, r.n)
			if e != want || !r.is && b != nil || r.is && !bytes.Equal(b, view[r.at:r.at+r.n]) {
				t.Errorf("of %d: Load(%d, %d) = %v, %v", len(image), r.at, r.n, b, e)
			}
			if e := d.Flush(r.at, r.n); e != want {
				t.Errorf("of %d: Flush(%d, %d) tells %v", len(image), r.at, r.n, e)
			}
			all(t, d, image, view, []int{0}, false)
			if r.n < 0 || r.n > 1000 {
				continue
			}
			if e := d.Store(r.at, make([]byte, r.n)); e != want {
				t.Errorf("of %d: Store(%d) of %d bytes tells %v", len(image), r.at, r.n, e)
			}
			if !r.is {
				all(t, d, image, view, []int{0}, false)
			}
		}
	}
}

func TestReachOfMaxLines(t *testing.T) {
	size := api.MaxLines * api.LineSize
	d := device(t, make([]byte, size))
	told(t, "Store at the last byte", d.Store(size-1, []byte{7}), api.OK)
	told(t, "Store beyond", d.Store(size-1, []byte{7, 8}), api.ErrArg)
	told(t, "Store behind", d.Store(size, []byte{7}), api.ErrArg)
	told(t, "Store of nothing at the end", d.Store(size, nil), api.OK)
	told(t, "Flush of all", d.Flush(0, size), api.OK)
	told(t, "Flush of more", d.Flush(0, size+1), api.ErrArg)
	told(t, "Fence", d.Fence(), api.OK)
	if b := d.Image(); len(b) != size || b[size-1] != 7 || len(d.Dirty()) != 0 {
		t.Error("the last byte does not last")
	}
	told(t, "Store of all", d.Store(0, bytes.Repeat([]byte{3}, size)), api.OK)
	if l := d.Dirty(); len(l) != api.MaxLines || l[0] != 0 || l[api.MaxLines-1] != api.MaxLines-1 || !slices.IsSorted(l) {
		t.Errorf("dirty are %d lines", len(l))
	}
}

func TestStoreSoilsItsLines(t *testing.T) {
	image := row(256)
	for at := range 257 {
		for n := range 257 - at {
			d := device(t, image)
			told(t, "Store", d.Store(at, bytes.Repeat([]byte{9}, n)), api.OK)
			all(t, d, image, with(image, at, bytes.Repeat([]byte{9}, n)...), touched(at, n), false)
		}
	}
}

// touched are the lines of n bytes, gone through byte by byte.
func touched(at, n int) []int {
	var l []int
	for i := range n {
		if number := (at + i) / 64; !slices.Contains(l, number) {
			l = append(l, number)
		}
	}
	return l
}

func TestStoreOfWhatIsSeen(t *testing.T) {
	image := row(128)
	d := device(t, image)
	told(t, "Store", d.Store(64, image[64:70]), api.OK)
	all(t, d, image, image, []int{1}, false)
}

func TestStoreTwice(t *testing.T) {
	image := row(128)
	d := device(t, image)
	told(t, "Store", d.Store(3, []byte{1, 1, 1}), api.OK)
	told(t, "Store", d.Store(4, []byte{2}), api.OK)
	all(t, d, image, with(image, 3, 1, 2, 1), []int{0}, false)
	d.Crash(nil)
	all(t, d, image, image, nil, false)
}

func TestFlush(t *testing.T) {
	image := row(256)
	view := with(with(with(image, 1, 7), 66, 8), 195, 9)
	for at := range 257 {
		for n := range 257 - at {
			d := device(t, image)
			for i, b := range []int{1, 66, 195} {
				told(t, "Store", d.Store(b, []byte{byte(7 + i)}), api.OK)
			}
			told(t, "Flush", d.Flush(at, n), api.OK)
			all(t, d, image, view, []int{0, 1, 3}, false)
			told(t, "Fence", d.Fence(), api.OK)
			want, dirty := slices.Clone(image), []int{}
			for _, number := range []int{0, 1, 3} {
				if slices.Contains(touched(at, n), number) {
					copy(want[number*64:number*64+64], view[number*64:])
				} else {
					dirty = append(dirty, number)
				}
			}
			all(t, d, want, view, dirty, false)
		}
	}
}

func TestFlushOfCleanLines(t *testing.T) {
	image := row(128)
	d := device(t, image)
	told(t, "Flush", d.Flush(0, 128), api.OK)
	all(t, d, image, image, nil, false)
	told(t, "Store", d.Store(0, []byte{1}), api.OK)
	told(t, "Fence", d.Fence(), api.OK)
	all(t, d, image, with(image, 0, 1), []int{0}, false)
}

func TestFlushedAnew(t *testing.T) {
	image := row(192)
	for _, again := range []int{0, 10, 63} {
		d := device(t, image)
		told(t, "Store", d.Store(10, []byte{1}), api.OK)
		told(t, "Store", d.Store(64, []byte{2}), api.OK)
		told(t, "Flush", d.Flush(0, 128), api.OK)
		told(t, "Store", d.Store(again, []byte{3}), api.OK)
		told(t, "Fence", d.Fence(), api.OK)
		view := with(with(with(image, 10, 1), 64, 2), again, 3)
		all(t, d, with(image, 64, 2), view, []int{0}, false)
		told(t, "Flush", d.Flush(5, 1), api.OK)
		told(t, "Fence", d.Fence(), api.OK)
		all(t, d, view, view, nil, false)
	}
}

func TestStoreOfNothingKeepsFlushed(t *testing.T) {
	image := row(128)
	for _, at := range []int{0, 1, 63, 64, 128} {
		for _, b := range [][]byte{nil, {}} {
			d := device(t, image)
			told(t, "Store", d.Store(1, []byte{1}), api.OK)
			told(t, "Flush", d.Flush(1, 1), api.OK)
			told(t, "Store of nothing", d.Store(at, b), api.OK)
			all(t, d, image, with(image, 1, 1), []int{0}, false)
			told(t, "Fence", d.Fence(), api.OK)
			all(t, d, with(image, 1, 1), with(image, 1, 1), nil, false)
		}
	}
}

func TestFenceTwice(t *testing.T) {
	image := row(128)
	d := device(t, image)
	told(t, "Store", d.Store(1, []byte{1}), api.OK)
	told(t, "Flush", d.Flush(1, 1), api.OK)
	told(t, "Fence", d.Fence(), api.OK)
	told(t, "Store", d.Store(2, []byte{2}), api.OK)
	told(t, "Fence", d.Fence(), api.OK)
	all(t, d, with(image, 1, 1), with(image, 1, 1, 2), []int{0}, false)
	d.Crash(nil)
	all(t, d, with(image, 1, 1), with(image, 1, 1), nil, false)
}

func TestDownAheadOfArg(t *testing.T) {
	image := row(128)
	d := device(t, image)
	told(t, "Store", d.Store(100, []byte{1}), api.OK)
	d.Arm(1)
	told(t, "Fence", d.Fence(), api.ErrDown)
	for _, r := range reaches(128) {
		if b, e := d.Load(r.at, r.n); b != nil || e != api.ErrDown {
			t.Errorf("Load(%d, %d) = %v, %v", r.at, r.n, b, e)
		}
		told(t, "Flush", d.Flush(r.at, r.n), api.ErrDown)
		if r.n >= 0 && r.n < 1000 {
			told(t, "Store", d.Store(r.at, make([]byte, r.n)), api.ErrDown)
		}
		told(t, "Fence", d.Fence(), api.ErrDown)
	}
	all(t, d, image, with(image, 100, 1), []int{1}, true)
}

// P3.3

// steps are calls that tell OK on a device of two lines.
func steps() map[string]func(*Device) api.Errno {
	return map[string]func(*Device) api.Errno{
		"Store":                   func(d *Device) api.Errno { return d.Store(1, []byte{5}) },
		"Store over a border":     func(d *Device) api.Errno { return d.Store(60, row(10)) },
		"Store of nothing":        func(d *Device) api.Errno { return d.Store(0, nil) },
		"Store of nothing at end": func(d *Device) api.Errno { return d.Store(128, []byte{}) },
		"Flush":                   func(d *Device) api.Errno { return d.Flush(0, 128) },
		"Flush of nothing":        func(d *Device) api.Errno { return d.Flush(3, 0) },
		"Fence":                   func(d *Device) api.Errno { return d.Fence() },
	}
}

func TestArm(t *testing.T) {
	image := row(128)
	for name, step := range steps() {
		for n := 1; n < 9; n++ {
			d := device(t, image)
			told(t, "Store", d.Store(0, []byte{8}), api.OK)
			told(t, "Flush", d.Flush(0, 1), api.OK)
			d.Arm(n)
			for range n - 1 {
				told(t, name, step(d), api.OK)
			}
			last, seen, dirty := d.Image(), d.View(), d.Dirty()
			told(t, name, step(d), api.ErrDown)
			all(t, d, last, seen, dirty, true)
			told(t, name, step(d), api.ErrDown)
			all(t, d, last, seen, dirty, true)
			d.Crash(nil)
			for range 20 {
				told(t, name, step(d), api.OK)
			}
		}
	}
}

func TestStepNotDoneLeavesFlushed(t *testing.T) {
	image := row(128)
	d := device(t, image)
	told(t, "Store", d.Store(0, []byte{1}), api.OK)
	told(t, "Flush", d.Flush(0, 1), api.OK)
	d.Arm(1)
	told(t, "Fence", d.Fence(), api.ErrDown)
	all(t, d, image, with(image, 0, 1), []int{0}, true)
	d.Crash([]bool{true})
	all(t, d, with(image, 0, 1), with(image, 0, 1), nil, false)
}

func TestArmNot(t *testing.T) {
	for _, n := range []int{0, -1, -2, api.MinInt, api.MinInt + 1} {
		d := device(t, row(128))
		for _, first := range []int{0, 1, 2, 20} {
			d.Arm(first)
			d.Arm(n)
			for range 30 {
				told(t, "Fence", d.Fence(), api.OK)
			}
		}
	}
}

func TestArmFar(t *testing.T) {
	for _, n := range []int{1000, 1 << 32, api.MaxInt - 1, api.MaxInt} {
		d := device(t, row(128))
		d.Arm(n)
		for range 999 {
			told(t, "Fence", d.Fence(), api.OK)
		}
		if e := d.Fence(); (e == api.ErrDown) != (n == 1000) {
			t.Errorf("armed with %d, the thousandth step tells %v", n, e)
		}
	}
}

func TestArmAnew(t *testing.T) {
	d := device(t, row(128))
	d.Arm(3)
	told(t, "Fence", d.Fence(), api.OK)
	d.Arm(3)
	told(t, "Fence", d.Fence(), api.OK)
	told(t, "Fence", d.Fence(), api.OK)
	told(t, "Fence", d.Fence(), api.ErrDown)
}

func TestArmWithoutPower(t *testing.T) {
	d := device(t, row(128))
	for _, n := range []int{1, 2, 0, -1} {
		d.Arm(1)
		told(t, "Fence", d.Fence(), api.ErrDown)
		d.Arm(n)
		told(t, "Fence", d.Fence(), api.ErrDown)
		told(t, "Fence", d.Fence(), api.ErrDown)
		d.Crash(nil)
		for range 5 {
			told(t, "Fence", d.Fence(), api.OK)
		}
	}
}

func TestOnlyStepsCount(t *testing.T) {
	image := row(128)
	d := device(t, image)
	d.Arm(2)
	for range 3 {
		told(t, "Store below", d.Store(-1, []byte{1}), api.ErrArg)
		told(t, "Store beyond", d.Store(127, []byte{1, 2}), api.ErrArg)
		told(t, "Store of nothing beyond", d.Store(129, nil), api.ErrArg)
		told(t, "Flush beyond", d.Flush(127, 2), api.ErrArg)
		told(t, "Flush below 0", d.Flush(1, -1), api.ErrArg)
		_, e := d.Load(128, 1)
		told(t, "Load beyond", e, api.ErrArg)
		_, e = d.Load(0, 128)
		told(t, "Load", e, api.OK)
		all(t, d, image, image, nil, false)
	}
	told(t, "the first step", d.Fence(), api.OK)
	told(t, "Flush beyond", d.Flush(0, 129), api.ErrArg)
	all(t, d, image, image, nil, false)
	told(t, "the second step", d.Fence(), api.ErrDown)
	all(t, d, image, image, nil, true)
}

func TestCrash(t *testing.T) {
	image := row(320)
	view := with(with(with(image, 64, 1), 191, 2, 3), 319, 4)
	dirty := []int{1, 2, 3, 4}
	for length := range 8 {
		for bits := range 1 << length {
			keep := make([]bool, length)
			want := slices.Clone(image)
			for i := range length {
				keep[i] = bits>>i&1 == 1
				if keep[i] && i < len(dirty) {
					copy(want[dirty[i]*64:dirty[i]*64+64], view[dirty[i]*64:])
				}
			}
			d := device(t, image)
			told(t, "Store", d.Store(319, []byte{4}), api.OK)
			told(t, "Store", d.Store(191, []byte{2, 3}), api.OK)
			told(t, "Store", d.Store(64, []byte{1}), api.OK)
			told(t, "Flush", d.Flush(192, 1), api.OK)
			all(t, d, image, view, dirty, false)
			d.Crash(keep)
			all(t, d, want, want, nil, false)
			d.Crash([]bool{true, true, true, true, true})
			all(t, d, want, want, nil, false)
		}
	}
}

func TestCrashForgetsFlushedAndArmed(t *testing.T) {
	image := row(128)
	for _, keep := range [][]bool{nil, {}, {false}, {true}} {
		d := device(t, image)
		told(t, "Store", d.Store(0, []byte{1}), api.OK)
		told(t, "Flush", d.Flush(0, 1), api.OK)
		d.Arm(3)
		d.Crash(keep)
		last := d.Image()
		told(t, "Store", d.Store(1, []byte{2}), api.OK)
		told(t, "Fence", d.Fence(), api.OK)
		all(t, d, last, with(last, 1, 2), []int{0}, false)
		told(t, "Fence", d.Fence(), api.OK)
		told(t, "Fence", d.Fence(), api.OK)
		d.Crash(nil)
		all(t, d, last, last, nil, false)
	}
}

func TestCrashOfACleanDevice(t *testing.T) {
	image := row(64)
	d := device(t, image)
	for _, keep := range [][]bool{nil, {true}, make([]bool, 300)} {
		d.Crash(keep)
		all(t, d, image, image, nil, false)
	}
}

// P3.4

func TestHandedInIsLeft(t *testing.T) {
	image, first := roomy(row(128)), roomy([]byte{1, 2, 3})
	d := device(t, image)
	told(t, "Store", d.Store(126, first), api.ErrArg)
	told(t, "Store", d.Store(62, first), api.OK)
	keep := []bool{true, false, true, true}[:2]
	if !bytes.Equal(image, row(128)) || !sameSpare(image) || !bytes.Equal(first, []byte{1, 2, 3}) || !sameSpare(first) {
		t.Error("what is handed in is changed")
	}
	scribble(image)
	scribble(first)
	all(t, d, row(128), with(row(128), 62, 1, 2, 3), []int{0, 1}, false)
	d.Crash(keep)
	if !slices.Equal(keep[:4], []bool{true, false, true, true}) {
		t.Errorf("keep is now %v", keep[:4])
	}
	all(t, d, with(row(128), 62, 1, 2), with(row(128), 62, 1, 2), nil, false)
	keep[0], keep[1] = false, true
	all(t, d, with(row(128), 62, 1, 2), with(row(128), 62, 1, 2), nil, false)
}

func TestRefusedIsLeft(t *testing.T) {
	image := roomy(row(65))
	refused(t, image)
	if !bytes.Equal(image, row(65)) || !sameSpare(image) {
		t.Error("what is refused is changed")
	}
}

func TestAnswersAreNew(t *testing.T) {
	image := row(192)
	view := with(image, 60, row(9)...)
	d := device(t, image)
	told(t, "Store", d.Store(60, row(9)), api.OK)
	for range 2 {
		for at := range 192 {
			b, _ := d.Load(at, min(70, 192-at))
			scribble(b)
			b, _ = d.Load(at, 0)
			scribble(b)
		}
		scribble(d.Image())
		scribble(d.View())
		l := d.Dirty()
		l = l[:cap(l)]
		for i := range l {
			l[i] = -7
		}
		all(t, d, image, view, []int{0, 1}, false)
	}
	b, l := d.Image(), d.Dirty()
	v, _ := d.Load(0, 192)
	told(t, "Flush", d.Flush(0, 192), api.OK)
	told(t, "Fence", d.Fence(), api.OK)
	told(t, "Store", d.Store(0, make([]byte, 192)), api.OK)
	d.Crash(nil)
	if !bytes.Equal(b, image) || !bytes.Equal(v, view) || !slices.Equal(l, []int{0, 1}) {
		t.Error("an answer changed behind its call")
	}
	all(t, d, view, view, nil, false)
}

func TestDevicesShareNothing(t *testing.T) {
	image := row(128)
	one, two := device(t, image), device(t, image)
	told(t, "Store", one.Store(0, []byte{1}), api.OK)
	one.Arm(1)
	told(t, "Fence", one.Fence(), api.ErrDown)
	all(t, two, image, image, nil, false)
	told(t, "Fence", two.Fence(), api.OK)
}

// P3.5, P3.6: both are held against a plain device, which has its two rows of bytes and goes through its lines one by one.

type plain struct {
	last, seen     []byte
	dirty, flushed []bool
	armed          int
	down           bool
}

func newPlain(image []byte) *plain {
	n := len(image) / 64
	return &plain{slices.Clone(image), slices.Clone(image), make([]bool, n), make([]bool, n), 0, false}
}

// count is whether a step is done.
func (p *plain) count() api.Errno {
	if p.down {
		return api.ErrDown
	}
	if p.armed == 1 {
		p.down = true
	}
	p.armed = max(p.armed-1, 0)
	if p.down {
		return api.ErrDown
	}
	return api.OK
}

func (p *plain) store(at int, b []byte) api.Errno {
	e := p.count()
	for i := range b {
		if e == api.OK {
			p.seen[at+i] = b[i]
			p.dirty[(at+i)/64], p.flushed[(at+i)/64] = true, false
		}
	}
	return e
}

func (p *plain) flush(at, n int) api.Errno {
	e := p.count()
	for i := range n {
		if e == api.OK {
			p.flushed[(at+i)/64] = p.dirty[(at+i)/64]
		}
	}
	return e
}

func (p *plain) fence() api.Errno {
	e := p.count()
	for n := range p.dirty {
		if e == api.OK && p.flushed[n] {
			copy(p.last[n*64:n*64+64], p.seen[n*64:])
			p.dirty[n], p.flushed[n] = false, false
		}
	}
	return e
}

func (p *plain) crash(keep []bool) {
	for n := range p.dirty {
		kept := false
		if p.dirty[n] && len(keep) > 0 {
			kept, keep = keep[0], keep[1:]
		}
		if kept {
			copy(p.last[n*64:n*64+64], p.seen[n*64:])
		}
		p.dirty[n], p.flushed[n] = false, false
	}
	p.seen, p.armed, p.down = slices.Clone(p.last), 0, false
}

func (p *plain) lines() []int {
	var l []int
	for n, is := range p.dirty {
		if is {
			l = append(l, n)
		}
	}
	return l
}

// draw is numbers that look like chance, but are the same in each run.
type draw uint64

func (r *draw) below(n int) int {
	*r = *r*6364136223846793005 + 1442695040888963407
	return int(uint64(*r) >> 33 % uint64(n))
}

func (r *draw) keep() []bool {
	l := make([]bool, r.below(8))
	for i := range l {
		l[i] = r.below(2) == 1
	}
	return l
}

func TestAsAPlainDevice(t *testing.T) {
	for seed := range 60 {
		r := draw(seed)
		image := row(64 * (1 + r.below(6)))
		d, p := device(t, image), newPlain(image)
		for range 300 {
			at := r.below(len(image) + 1)
			n := r.below(min(len(image)-at, 150) + 1)
			switch r.below(10) {
			case 0, 1, 2:
				b := bytes.Repeat([]byte{byte(r.below(256))}, n)
				told(t, "Store", d.Store(at, b), p.store(at, b))
			case 3, 4, 5:
				told(t, "Flush", d.Flush(at, n), p.flush(at, n))
			case 6, 7:
				told(t, "Fence", d.Fence(), p.fence())
			case 8:
				n := r.below(20) - 2
				d.Arm(n)
				p.armed = max(n, 0)
			case 9:
				keep := r.keep()
				eitherWay(t, d, keep)
				p.crash(keep)
			}
			all(t, d, p.last, p.seen, p.lines(), p.down)
			if t.Failed() {
				t.Fatalf("seed %d", seed)
			}
		}
	}
}

// eitherWay crashes a device: each of its lines is then as it lasted, or as it was seen, and one that was not dirty as it was.
func eitherWay(t *testing.T, d *Device, keep []bool) {
	t.Helper()
	last, seen, dirty := d.Image(), d.View(), d.Dirty()
	d.Crash(keep)
	now := d.View()
	for n := range d.Lines() {
		is, was, saw := now[n*64:n*64+64], last[n*64:n*64+64], seen[n*64:n*64+64]
		if !bytes.Equal(is, was) && (!bytes.Equal(is, saw) || !slices.Contains(dirty, n)) {
			t.Errorf("line %d is %v; it lasted as %v, and was seen as %v", n, is, was, saw)
		}
	}
}

func TestFencedLasts(t *testing.T) {
	image := row(256)
	for bits := range 16 {
		keep := []bool{bits&1 != 0, bits&2 != 0, bits&4 != 0, bits&8 != 0}
		d := device(t, image)
		told(t, "Store", d.Store(60, row(10)), api.OK)
		told(t, "Flush", d.Flush(60, 10), api.OK)
		told(t, "Fence", d.Fence(), api.OK)
		fenced := with(image, 60, row(10)...)
		told(t, "Store", d.Store(192, []byte{9}), api.OK)
		eitherWay(t, d, keep)
		if keep[0] {
			fenced[192] = 9
		}
		all(t, d, fenced, fenced, nil, false)
	}
}

// The answers of a device hang on its calls alone, though its lines are in a map, whose order is another one each time.
func TestSameEachTime(t *testing.T) {
	var first []byte
	for turn := range 30 {
		r := draw(5)
		d := device(t, row(64*40))
		for range 200 {
			told(t, "Store", d.Store(r.below(64*39), row(1+r.below(64))), api.OK)
			if r.below(10) == 0 {
				told(t, "Flush", d.Flush(64*r.below(20), 64*20), api.OK)
				told(t, "Fence", d.Fence(), api.OK)
			}
		}
		keep := []bool{true, false, true, true, false, true, false, false, true}
		d.Crash(keep)
		if turn == 0 {
			first = d.View()
		}
		if !bytes.Equal(d.View(), first) || !bytes.Equal(d.Image(), first) {
			t.Fatal("the same calls came to something else")
		}
	}
}
