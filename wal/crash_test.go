package wal

import (
	"bytes"
	"testing"

	"joist/api"
	"joist/pmem"
)

// crashes are all images that a crash may leave: each choice of the dirty lines kept.
func crashes(t *testing.T, begin func() *pmem.Device) [][]byte {
	t.Helper()
	dirty := len(begin().Dirty())
	var l [][]byte
	for bits := range 1 << dirty {
		var keep []bool
		for i := range dirty {
			keep = append(keep, bits>>i&1 == 1)
		}
		d := begin()
		d.Crash(keep)
		l = append(l, d.Image())
	}
	return l
}

// failing is a device of an image on which a call was cut off at a step.
func failing(t *testing.T, image []byte, step int, call func(d *pmem.Device) api.Errno) func() *pmem.Device {
	return func() *pmem.Device {
		d := device(t, image)
		d.Arm(step)
		if e := call(d); e != api.ErrDown || !d.Down() {
			t.Fatalf("step %d: the call tells %v", step, e)
		}
		return d
	}
}

// outside are the bytes of the lines that are not the log's.
func outside(g api.Log, image []byte) []byte {
	var b []byte
	for _, n := range frees(g, len(image)/size) {
		b = append(b, image[n*size:n*size+size]...)
	}
	return b
}

// reached are images, and all that failures within Recover leave of them, however often the power fails.
func reached(t *testing.T, g api.Log, images [][]byte) [][]byte {
	t.Helper()
	seen := map[string]bool{}
	var all [][]byte
	add := func(image []byte) {
		if !seen[string(image)] {
			seen[string(image)] = true
			all = append(all, image)
		}
	}
	for _, image := range images {
		add(image)
	}
	for i := 0; i < len(all); i++ {
		for _, image := range cutRecovers(t, g, all[i]) {
			add(image)
		}
	}
	return all
}

// cutRecovers are all images that one failing Recover may leave of one.
func cutRecovers(t *testing.T, g api.Log, image []byte) [][]byte {
	t.Helper()
	d := device(t, image)
	n, e := Recover(d, g)
	if e != api.OK {
		t.Fatalf("Recover tells %v", e)
	}
	if n == 0 {
		return nil
	}
	var l [][]byte
	for step := 1; step <= 2*n+4; step++ {
		cut := func(d *pmem.Device) api.Errno {
			k, e := Recover(d, g)
			if k != 0 {
				t.Errorf("step %d: Recover = %d, %v", step, k, e)
			}
			return e
		}
		l = append(l, crashes(t, failing(t, image, step, cut))...)
	}
	return l
}

// settled recovers a device of an image, and is what lasts behind it; all does.
func settled(t *testing.T, g api.Log, image []byte) []byte {
	t.Helper()
	d := device(t, image)
	if _, e := Recover(d, g); e != api.OK {
		t.Fatalf("Recover tells %v", e)
	}
	if len(d.Dirty()) != 0 || d.Down() || !bytes.Equal(d.Image(), d.View()) {
		t.Errorf("behind Recover not all lasts: %v", d.Dirty())
	}
	if l, e := Read(g, d.View()); len(l) != 0 || e != api.OK {
		t.Errorf("behind Recover the mark tells %v, %v", l, e)
	}
	return d.Image()
}

// allOrNone fails Commit at each step and Recover at each step, as often as the images change, with each choice of kept lines.
func allOrNone(t *testing.T, g api.Log, image []byte, l []api.Change) {
	t.Helper()
	before, behind := outside(g, image), outside(g, changed(image, l))
	if bytes.Equal(before, behind) {
		t.Fatalf("%v change nothing", l)
	}
	last := 10 + 2*len(l)
	for step := 1; step <= last; step++ {
		none, all := 0, 0
		for _, left := range reached(t, g, crashes(t, failing(t, image, step, committer(g, l)))) {
			got := outside(g, settled(t, g, left))
			switch {
			case bytes.Equal(got, behind):
				all++
			case bytes.Equal(got, before):
				none++
			default:
				t.Fatalf("%+v, lines %v, step %d: neither all changes nor none", g, l, step)
			}
		}
		// The mark alone says which it is: up to step 4 it is not there, at 5 and 6 it may last, then it does.
		if (none > 0) != (step <= 6) || (all > 0) != (step >= 5) {
			t.Errorf("%+v, step %d: %d times none, %d times all", g, step, none, all)
		}
	}
	d := device(t, image)
	if e := Commit(d, g, l); e != api.OK {
		t.Fatalf("Commit tells %v", e)
	}
	if !bytes.Equal(outside(g, d.Image()), behind) || !bytes.Equal(d.Image(), d.View()) || len(d.Dirty()) != 0 {
		t.Errorf("%+v: Commit told OK, and not all lasts", g)
	}
	for _, left := range crashes(t, func() *pmem.Device { return d }) {
		if !bytes.Equal(outside(g, left), behind) || !bytes.Equal(outside(g, settled(t, g, left)), behind) {
			t.Errorf("%+v: Commit told OK, and its changes are not there", g)
		}
	}
}

// P5.7

func TestAllOrNone(t *testing.T) {
	for _, g := range logs() {
		free := frees(g, 12)
		empty := with(row(12*size), g.Mark*size, make([]byte, 64)...)
		for _, numbers := range [][]int{{free[0]}, {free[len(free)-1]}, {free[0], free[len(free)-1]}, {free[1], free[2]}, free[:3], free[len(free)-3:]} {
			allOrNone(t, g, empty, tos(numbers...))
		}
	}
}

func TestAllOrNoneOverOldRecords(t *testing.T) {
	// What an earlier Commit left in the records is none of the later one's.
	for _, g := range logs() {
		free := frees(g, 12)
		d := device(t, make([]byte, 12*size))
		for turn, old := range [][]int{{free[0]}, free[:2], free[:3], {free[1], free[4]}} {
			var l []api.Change
			for _, n := range old {
				l = append(l, to(n, byte(turn+1)))
			}
			if e := Commit(d, g, l); e != api.OK {
				t.Fatalf("Commit tells %v", e)
			}
			for _, numbers := range [][]int{{free[0]}, {free[1], free[2]}, {free[0], free[3], free[4]}} {
				allOrNone(t, g, d.Image(), tos(numbers...))
			}
		}
	}
}

func TestAllOrNoneInSmallLogs(t *testing.T) {
	for _, g := range []api.Log{{Mark: 0, First: 1, Room: 1}, {Mark: 2, First: 0, Room: 1}, {Mark: 3, First: 1, Room: 1}, {Mark: 1, First: 2, Room: 1}} {
		image := with(row(4*size), g.Mark*size, make([]byte, 64)...)
		allOrNone(t, g, image, tos(frees(g, 4)...))
		allOrNone(t, g, image, []api.Change{to(frees(g, 4)[0], 0)})
	}
}

func TestFailuresOneBehindAnother(t *testing.T) {
	// Many commits on one device, most of them cut off, and recovered with failures: what was told is done, the rest whole or not at all.
	for seed := range 200 {
		r := draw(seed)
		g := logs()[r.below(len(logs()))]
		free := frees(g, 12)
		d := device(t, with(row(12*size), g.Mark*size, make([]byte, 64)...))
		for range 20 {
			var l []api.Change
			for _, n := range free {
				if r.below(2) == 0 && len(l) < 3 {
					l = append(l, to(n, byte(r.below(256))))
				}
			}
			before, behind := outside(g, d.Image()), outside(g, changed(d.Image(), l))
			d.Arm(r.below(20))
			e := Commit(d, g, l)
			r.crash(d)
			r.recover(t, d, g)
			got := outside(g, d.Image())
			if !bytes.Equal(got, behind) && (e == api.OK || !bytes.Equal(got, before)) {
				t.Fatalf("seed %d: Commit told %v, and neither all nor none is there", seed, e)
			}
		}
	}
}

// recover lets the power fail within Recover, till it tells OK.
func (r *draw) recover(t *testing.T, d *pmem.Device, g api.Log) {
	t.Helper()
	for range 1000 {
		d.Arm(r.below(12))
		_, e := Recover(d, g)
		r.crash(d)
		if e == api.OK {
			return
		}
		if e != api.ErrDown {
			t.Fatalf("Recover tells %v", e)
		}
	}
	t.Fatal("Recover never tells OK")
}

// crash keeps some of the dirty lines.
func (r *draw) crash(d *pmem.Device) {
	var keep []bool
	for range d.Dirty() {
		keep = append(keep, r.below(2) == 0)
	}
	d.Crash(keep)
}

// P5.8

func TestRecoverTwice(t *testing.T) {
	for _, g := range logs() {
		free := frees(g, 12)
		for k := range 4 {
			d := device(t, written(row(12*size), g, tos(free[:k]...)...))
			if n, e := Recover(d, g); n != k || e != api.OK {
				t.Fatalf("Recover = %d, %v; want %d", n, e, k)
			}
			image := d.Image()
			for range 3 {
				d.Arm(1)
				if n, e := Recover(d, g); n != 0 || e != api.OK || d.Down() {
					t.Errorf("Recover behind Recover = %d, %v", n, e)
				}
				if !bytes.Equal(d.Image(), image) || !bytes.Equal(d.View(), image) || len(d.Dirty()) != 0 {
					t.Error("Recover behind Recover changed the device")
				}
			}
			if k := left(d); k != 0 {
				t.Errorf("Recover behind Recover did a step: %d are left", k)
			}
		}
	}
}

func TestRecoverBehindCommit(t *testing.T) {
	for _, g := range logs() {
		d := device(t, make([]byte, 12*size))
		if e := Commit(d, g, tos(frees(g, 12)[:2]...)); e != api.OK {
			t.Fatalf("Commit tells %v", e)
		}
		image := d.Image()
		d.Arm(1)
		if n, e := Recover(d, g); n != 0 || e != api.OK || d.Down() || !bytes.Equal(d.Image(), image) || left(d) != 0 {
			t.Errorf("Recover behind Commit = %d, %v", n, e)
		}
	}
}
