package wal

import (
	"bytes"
	"slices"
	"testing"

	"joist/api"
	"joist/pmem"
)

func device(t *testing.T, image []byte) *pmem.Device {
	t.Helper()
	d, e := pmem.New(image)
	if e != api.OK {
		t.Fatalf("New of %d bytes: %v", len(image), e)
	}
	return d
}

// doing is one step of a device: the document's own row of them is held against what Commit and Recover do.
type doing func(d *pmem.Device) api.Errno

func storing(line int, b []byte) doing {
	return func(d *pmem.Device) api.Errno { return d.Store(line*size, b) }
}

func flushing(line, n int) doing {
	return func(d *pmem.Device) api.Errno { return d.Flush(line*size, n) }
}

func fencing(d *pmem.Device) api.Errno { return d.Fence() }

// finishing are steps 3 and 4.
func finishing(g api.Log, l []api.Change) []doing {
	var row []doing
	for _, c := range l {
		row = append(row, storing(c.Line, c.B), flushing(c.Line, 64))
	}
	return append(row, fencing, storing(g.Mark, make([]byte, 64)), flushing(g.Mark, 64), fencing)
}

// committing are steps 1 to 4.
func committing(g api.Log, l []api.Change) []doing {
	records := recordsOf(l...)
	row := []doing{storing(g.First, records), flushing(g.First, len(records)), fencing, storing(g.Mark, markFor(records)), flushing(g.Mark, 64), fencing}
	return append(row, finishing(g, l)...)
}

// alike holds two devices against each other in all that they show.
func alike(t *testing.T, what string, d, want *pmem.Device) {
	t.Helper()
	if !bytes.Equal(d.View(), want.View()) {
		t.Errorf("%s: what is seen is another one", what)
	}
	if !bytes.Equal(d.Image(), want.Image()) {
		t.Errorf("%s: what lasts is another one", what)
	}
	if !slices.Equal(d.Dirty(), want.Dirty()) {
		t.Errorf("%s: dirty lines %v; want %v", what, d.Dirty(), want.Dirty())
	}
	if d.Down() != want.Down() {
		t.Errorf("%s: down: %v; want %v", what, d.Down(), want.Down())
	}
}

// left is how many steps a device does before the power fails, up to a hundred. It spoils the device.
func left(d *pmem.Device) int {
	for n := range 100 {
		if d.Flush(0, 0) != api.OK {
			return n
		}
	}
	return 100
}

// does lets the power fail at each of a row's steps, one behind another, and behind the last one, and holds what a call did against the steps ahead of that.
func does(t *testing.T, what string, begin func() *pmem.Device, call func(d *pmem.Device) api.Errno, row []doing) {
	t.Helper()
	for n := 1; n <= len(row)+2; n++ {
		d, want := begin(), begin()
		d.Arm(n)
		want.Arm(n)
		told := api.OK
		for _, do := range row {
			if told = do(want); told != api.OK {
				break
			}
		}
		if (told == api.ErrDown) != (n <= len(row)) {
			t.Fatalf("%s, step %d: the row tells %v", what, n, told)
		}
		if e := call(d); e != told {
			t.Errorf("%s, step %d: tells %v; want %v", what, n, e, told)
		}
		alike(t, what, d, want)
		if n > len(row) {
			if k := left(d); k != n-len(row)-1 {
				t.Errorf("%s: armed with %d, %d are left", what, n, k)
			}
		}
	}
	d, want := begin(), begin()
	if e := call(d); e != api.OK {
		t.Errorf("%s: tells %v", what, e)
	}
	for _, do := range row {
		do(want)
	}
	alike(t, what, d, want)
	// What else was flushed, one more fence shows.
	d.Fence()
	want.Fence()
	alike(t, what+", a fence", d, want)
	if k := left(d); k != 100 {
		t.Errorf("%s: it is armed with %d", what, k+1)
	}
}

// stepless holds that a call tells want, and did no step and changed nothing, on a device with or without power.
func stepless(t *testing.T, what string, begin func() *pmem.Device, call func(d *pmem.Device) api.Errno, want api.Errno) {
	t.Helper()
	d := begin()
	d.Arm(1)
	if e := call(d); e != want {
		t.Errorf("%s: tells %v; want %v", what, e, want)
	}
	alike(t, what, d, begin())
	if k := left(d); k != 0 {
		t.Errorf("%s: it was armed with 1, %d steps are left", what, k)
	}
}

// downed is a device without power, of which some is dirty.
func downed(t *testing.T, image []byte) *pmem.Device {
	t.Helper()
	d := device(t, image)
	d.Store(0, full(77))
	d.Arm(1)
	if d.Fence() != api.ErrDown || !d.Down() {
		t.Fatal("the power did not fail")
	}
	return d
}

func committer(g api.Log, l []api.Change) func(d *pmem.Device) api.Errno {
	return func(d *pmem.Device) api.Errno { return Commit(d, g, l) }
}

// recoverer holds the number that Recover answers against want.
func recoverer(t *testing.T, g api.Log, want int) func(d *pmem.Device) api.Errno {
	return func(d *pmem.Device) api.Errno {
		t.Helper()
		n, e := Recover(d, g)
		if e == api.OK && n != want || e != api.OK && n != 0 {
			t.Errorf("Recover(%+v) = %d, %v; want %d", g, n, e, want)
		}
		return e
	}
}

// begins are devices of n lines on which steps are tried: all lasts; all is dirty; some is dirty, some of it flushed.
func begins(t *testing.T, image []byte) []func() *pmem.Device {
	plain := func() *pmem.Device { return device(t, image) }
	soiled := func() *pmem.Device {
		d := device(t, make([]byte, len(image)))
		d.Store(0, image)
		return d
	}
	mixed := func() *pmem.Device {
		d := device(t, make([]byte, len(image)))
		d.Store(0, image)
		for n := range len(image) / size {
			if n%3 == 1 {
				d.Flush(n*size, 1)
			}
		}
		d.Fence()
		for n := range len(image) / size {
			if n%3 == 2 {
				d.Flush(n*size, 1)
			}
		}
		return d
	}
	return []func() *pmem.Device{plain, soiled, mixed}
}

// logs are right ones for twelve lines: the mark ahead of the records and behind them, at either end.
func logs() []api.Log {
	return []api.Log{{Mark: 1, First: 2, Room: 3}, {Mark: 0, First: 6, Room: 3}, {Mark: 6, First: 0, Room: 3}, {Mark: 11, First: 2, Room: 3}, {Mark: 10, First: 3, Room: 3}, {Mark: 5, First: 6, Room: 3}}
}

// frees are the lines of n that are not the log's.
func frees(g api.Log, n int) []int {
	var l []int
	for line := range n {
		if line != g.Mark && (line < g.First || line >= g.First+2*g.Room) {
			l = append(l, line)
		}
	}
	return l
}

// P5.4

func TestCommitExamples(t *testing.T) {
	g := api.Log{Mark: 1, First: 2, Room: 2}
	d := device(t, make([]byte, 8*size))
	if e := Commit(d, g, []api.Change{to(7, 1)}); e != api.OK {
		t.Errorf("Commit tells %v", e)
	}
	if b := d.Image(); b[511] != 1 || !bytes.Equal(b[64:128], make([]byte, 64)) || !bytes.Equal(b[448:], full(1)) || len(d.Dirty()) != 0 {
		t.Errorf("what lasts is %v", b)
	}
	begin := func() *pmem.Device { return device(t, make([]byte, 8*size)) }
	stepless(t, "three lines", begin, committer(g, tos(0, 6, 7)), api.ErrLog)
	stepless(t, "the mark's line", begin, committer(g, tos(1)), api.ErrArg)
}

func TestCommitSteps(t *testing.T) {
	for _, g := range logs() {
		free := frees(g, 12)
		image := with(row(12*size), g.Mark*size, make([]byte, 64)...)
		for _, begin := range begins(t, image) {
			for k := 1; k <= 3; k++ {
				l := tos(free[len(free)-k:]...)
				if row := committing(g, l); len(row) != 10+2*k {
					t.Fatalf("%d steps of %d changes", len(row), k)
				}
				does(t, "Commit", begin, committer(g, l), committing(g, l))
			}
			l := tos(free[0], free[len(free)-1])
			does(t, "Commit", begin, committer(g, l), committing(g, l))
		}
	}
}

func TestCommitWhateverTheLogHolds(t *testing.T) {
	// The mark that is there is not read: it is written over, right or not.
	g := api.Log{Mark: 1, First: 2, Room: 2}
	for _, image := range [][]byte{row(8 * size), written(row(8*size), g, tos(0, 6)...), bytes.Repeat([]byte{255}, 8*size)} {
		begin := func() *pmem.Device { return device(t, image) }
		does(t, "Commit", begin, committer(g, tos(0, 7)), committing(g, tos(0, 7)))
	}
}

func TestCommitOfWhatIsThere(t *testing.T) {
	// Changes to what the lines are already: no step is left out.
	g := api.Log{Mark: 1, First: 2, Room: 2}
	image := changed(make([]byte, 8*size), tos(0, 7))
	begin := func() *pmem.Device { return device(t, image) }
	does(t, "Commit", begin, committer(g, tos(0, 7)), committing(g, tos(0, 7)))
}

func TestCommitOfAllLines(t *testing.T) {
	g := api.Log{Mark: 0, First: 1, Room: 1365}
	l := span(2731, 1365)
	d := device(t, with(row(4096*size), 0, make([]byte, 64)...))
	if e := Commit(d, g, l); e != api.OK {
		t.Fatalf("Commit tells %v", e)
	}
	want := changed(logged(row(4096*size), g, recordsOf(l...), make([]byte, 64)), l)
	if !bytes.Equal(d.Image(), want) || !bytes.Equal(d.View(), want) || len(d.Dirty()) != 0 {
		t.Error("not all lines are there")
	}
	g = api.Log{Mark: 2, First: 0, Room: 1}
	d = device(t, make([]byte, 4*size))
	if e := Commit(d, g, tos(3)); e != api.OK || !bytes.Equal(d.Image()[192:], tos(3)[0].B) {
		t.Errorf("four lines: %v", e)
	}
}

func TestCommitOfNone(t *testing.T) {
	g := api.Log{Mark: 1, First: 2, Room: 2}
	for _, l := range [][]api.Change{nil, {}, tos(-1, 1)[:0]} {
		for _, begin := range begins(t, row(8*size)) {
			stepless(t, "no changes", begin, committer(g, l), api.OK)
		}
		d := downed(t, row(8*size))
		if e := Commit(d, g, l); e != api.OK {
			t.Errorf("no changes, no power: %v", e)
		}
		alike(t, "no changes, no power", d, downed(t, row(8*size)))
	}
}

func TestCommitRefuses(t *testing.T) {
	g := api.Log{Mark: 1, First: 2, Room: 2}
	type wrong struct {
		what string
		g    api.Log
		l    []api.Change
		want api.Errno
	}
	var all []wrong
	for _, bad := range append(wrongLogs(), api.Log{Mark: 8, First: 2, Room: 2}, api.Log{Mark: 1, First: 5, Room: 2}, api.Log{Mark: 1, First: 2, Room: 4}, api.Log{Mark: 0, First: 7, Room: 1}, api.Log{Mark: 1, First: 2, Room: 2047}) {
		for _, l := range [][]api.Change{nil, {}, tos(0), tos(0, 7), tos(0, 6, 7), tos(1), tos(8)} {
			all = append(all, wrong{"a wrong log", bad, l, api.ErrArg})
		}
	}
	for _, l := range wrongChanges(8) {
		all = append(all, wrong{"wrong changes", g, l, api.ErrArg})
	}
	// Right for more lines, but not for these; and told ahead of there being too many.
	for _, l := range [][]api.Change{tos(8), tos(4095), tos(0, 8), tos(0, 6, 8), tos(0, 6, 7, 4095), tos(0, 6, 7, 7)} {
		all = append(all, wrong{"changes of more lines", g, l, api.ErrArg})
	}
	for line := 1; line < 6; line++ {
		all = append(all, wrong{"a line of the log", g, tos(line), api.ErrArg}, wrong{"a line of the log", g, tos(0, line), api.ErrArg}, wrong{"a line of the log", g, tos(line, 7), api.ErrArg}, wrong{"a line of the log, and too many", g, tos(0, line, 6, 7), api.ErrArg})
	}
	all = append(all, wrong{"too many", g, tos(0, 6, 7), api.ErrLog}, wrong{"too many", api.Log{Mark: 1, First: 2, Room: 1}, tos(0, 7), api.ErrLog}, wrong{"too many", api.Log{Mark: 1, First: 2, Room: 1}, tos(0, 4, 5, 6, 7), api.ErrLog})
	for _, w := range all {
		for _, begin := range begins(t, row(8*size)) {
			stepless(t, w.what, begin, committer(w.g, w.l), w.want)
		}
		// It is told ahead of there being no power.
		d := downed(t, row(8*size))
		if e := Commit(d, w.g, w.l); e != w.want {
			t.Errorf("%s, no power: %v; want %v", w.what, e, w.want)
		}
		alike(t, w.what, d, downed(t, row(8*size)))
	}
}

func TestCommitWithoutPower(t *testing.T) {
	g := api.Log{Mark: 1, First: 2, Room: 2}
	for _, l := range [][]api.Change{tos(0), tos(0, 7)} {
		d := downed(t, row(8*size))
		if e := Commit(d, g, l); e != api.ErrDown {
			t.Errorf("no power: %v", e)
		}
		alike(t, "no power", d, downed(t, row(8*size)))
	}
}

// P5.5

func TestRecoverSteps(t *testing.T) {
	for _, g := range logs() {
		free := frees(g, 12)
		for k := 1; k <= 3; k++ {
			l := tos(free[len(free)-k:]...)
			if row := finishing(g, l); len(row) != 4+2*k {
				t.Fatalf("%d steps of %d changes", len(row), k)
			}
			for _, begin := range begins(t, written(row(12*size), g, l...)) {
				does(t, "Recover", begin, recoverer(t, g, k), finishing(g, l))
			}
		}
	}
}

func TestRecoverOfWhatIsSeen(t *testing.T) {
	// The mark lasts, but another one is seen; and the other way round.
	g := api.Log{Mark: 1, First: 2, Room: 2}
	lasting := written(row(8*size), g, tos(0, 7)...)
	begin := func() *pmem.Device {
		d := device(t, lasting)
		d.Store(64, make([]byte, 64))
		return d
	}
	stepless(t, "none is seen", begin, recoverer(t, g, 0), api.OK)
	begin = func() *pmem.Device {
		d := device(t, lasting)
		d.Store(64, full(1))
		return d
	}
	stepless(t, "a wrong one is seen", begin, recoverer(t, g, 0), api.ErrCorrupt)
	begin = func() *pmem.Device {
		d := device(t, with(row(8*size), 64, make([]byte, 64)...))
		d.Store(0, written(row(8*size), g, tos(6)...))
		return d
	}
	does(t, "Recover", begin, recoverer(t, g, 1), finishing(g, tos(6)))
}

func TestRecoverOfNone(t *testing.T) {
	g := api.Log{Mark: 1, First: 2, Room: 2}
	for _, image := range [][]byte{make([]byte, 8*size), with(row(8*size), 64, make([]byte, 64)...), with(written(row(8*size), g, tos(0, 7)...), 64, make([]byte, 64)...)} {
		for _, begin := range begins(t, image) {
			stepless(t, "no records", begin, recoverer(t, g, 0), api.OK)
		}
	}
}

func TestRecoverRefuses(t *testing.T) {
	g := api.Log{Mark: 1, First: 2, Room: 2}
	corrupt := [][]byte{row(8 * size), written(row(8*size), g, tos(7, 0)...), written(row(8*size), g, tos(8)...), written(row(8*size), g, tos(0, 1)...), written(row(8*size), g, tos(0, 6, 7)...), logged(row(8*size), g, recordsOf(tos(7)...), marked(1, 5))}
	for _, image := range corrupt {
		for _, begin := range begins(t, image) {
			stepless(t, "wrong bytes", begin, recoverer(t, g, 0), api.ErrCorrupt)
		}
	}
	// A log that is wrong is told ahead of wrong bytes, also where there is a mark of no records.
	for _, image := range append(corrupt, make([]byte, 8*size), written(row(8*size), g, tos(0, 7)...)) {
		for _, bad := range append(wrongLogs(), api.Log{Mark: 8, First: 2, Room: 2}, api.Log{Mark: 1, First: 5, Room: 2}, api.Log{Mark: 1, First: 2, Room: 4}) {
			begin := func() *pmem.Device { return device(t, image) }
			stepless(t, "a wrong log", begin, recoverer(t, bad, 0), api.ErrArg)
		}
	}
	// No power is told ahead of all of it.
	for _, image := range append(corrupt, make([]byte, 8*size), written(row(8*size), g, tos(0, 7)...)) {
		for _, log := range append(wrongLogs(), g) {
			d := downed(t, image)
			if n, e := Recover(d, log); n != 0 || e != api.ErrDown {
				t.Errorf("no power: Recover(%+v) = %d, %v", log, n, e)
			}
			alike(t, "no power", d, downed(t, image))
		}
	}
}

func TestRecoverOfAllLines(t *testing.T) {
	g := api.Log{Mark: 0, First: 1, Room: 1365}
	l := span(2731, 1365)
	image := written(row(4096*size), g, l...)
	d := device(t, image)
	if n, e := Recover(d, g); n != 1365 || e != api.OK {
		t.Fatalf("Recover = %d, %v", n, e)
	}
	want := changed(with(image, 0, make([]byte, 64)...), l)
	if !bytes.Equal(d.Image(), want) || len(d.Dirty()) != 0 {
		t.Error("not all lines are there")
	}
}
