package wal

import (
	"bytes"
	"encoding/binary"
	"hash/crc32"
	"math/big"
	"slices"
	"testing"

	"joist/api"
)

const size = api.LineSize

// row is bytes of many values, none of which follows itself; of up to 256 lines no two are alike.
func row(n int) []byte {
	b := make([]byte, n)
	for i := range n {
		b[i] = byte(i*167 + i/64 + 3)
	}
	return b
}

// full is a line of one byte's value.
func full(x byte) []byte {
	return bytes.Repeat([]byte{x}, size)
}

// to is a change to a line of one byte's value.
func to(number int, x byte) api.Change {
	return api.Change{Line: number, B: full(x)}
}

// tos are changes to lines of many values, none of which is a line of a row; the numbers may be any.
func tos(numbers ...int) []api.Change {
	var l []api.Change
	for _, n := range numbers {
		b := row(size)
		slices.Reverse(b)
		l = append(l, api.Change{Line: n, B: with(b, n&31, byte(n), 200)})
	}
	return l
}

// with is b with others laid over it from at on.
func with(b []byte, at int, others ...byte) []byte {
	b = slices.Clone(b)
	copy(b[at:], others)
	return b
}

// changed is an image with changes, made without what is tested.
func changed(image []byte, l []api.Change) []byte {
	for _, c := range l {
		image = with(image, c.Line*size, c.B...)
	}
	return slices.Clone(image)
}

func deep(l []api.Change) []api.Change {
	var out []api.Change
	for _, c := range l {
		out = append(out, api.Change{Line: c.Line, B: slices.Clone(c.B)})
	}
	return out
}

func equal(a, b []api.Change) bool {
	return slices.EqualFunc(a, b, func(x, y api.Change) bool { return x.Line == y.Line && bytes.Equal(x.B, y.B) })
}

// word is a number's eight bytes.
func word(n uint64) []byte {
	return binary.LittleEndian.AppendUint64(nil, n)
}

// recordsOf are the records of changes, as the document says them.
func recordsOf(l ...api.Change) []byte {
	var b []byte
	for _, c := range l {
		b = slices.Concat(b, word(uint64(c.Line)), make([]byte, 56), c.B)
	}
	return b
}

// marked is a mark that says count and sum.
func marked(count, sum uint64) []byte {
	return slices.Concat(word(count), word(sum), make([]byte, 48))
}

// markFor is the mark of those records.
func markFor(records []byte) []byte {
	return marked(uint64(len(records)/128), uint64(crc32.ChecksumIEEE(records)))
}

// logged is an image on which records and a mark lie, whatever they are.
func logged(image []byte, g api.Log, records, mark []byte) []byte {
	return with(with(image, g.First*size, records...), g.Mark*size, mark...)
}

// written is an image with the log of changes, right or not.
func written(image []byte, g api.Log, l ...api.Change) []byte {
	records := recordsOf(l...)
	return logged(image, g, records, markFor(records))
}

// isRight says the document's words in numbers that have no end.
func isRight(g api.Log, n int) bool {
	num := func(x int) *big.Int { return big.NewInt(int64(x)) }
	if g.Room < 1 || g.Room > 4096 || g.First < 0 {
		return false
	}
	end := num(0).Add(num(g.First), num(2*g.Room)) // the first line behind the records
	if end.Cmp(num(n)) > 0 || g.Mark < 0 || num(g.Mark).Cmp(num(n)) >= 0 {
		return false
	}
	return g.Mark < g.First || num(g.Mark).Cmp(end) >= 0
}

func right(t *testing.T, g api.Log, n int, want bool) {
	t.Helper()
	if is := Right(g, n); is != want {
		t.Errorf("Right(%+v, %d) = %v", g, n, is)
	}
	if isRight(g, n) != want {
		t.Errorf("isRight(%+v, %d) is wrong", g, n)
	}
}

// ends are numbers around the limits and around the ends of numbers.
func ends() []int {
	return []int{api.MinInt, api.MinInt + 1, api.MinInt + 8192, -8193, -8192, -4097, -4096, -2, -1, 0, 1, 2, 3, 4, 5, 4094, 4095, 4096, 4097, 8190, 8191, 8192, 8193, 8194, 1 << 32, 1 << 62, 1<<62 + 1, api.MaxInt - 8193, api.MaxInt - 8192, api.MaxInt - 4096, api.MaxInt - 3, api.MaxInt - 2, api.MaxInt - 1, api.MaxInt}
}

func TestLimits(t *testing.T) {
	if api.LineSize != 64 || api.MaxLines != 4096 || api.ErrArg != 1 || api.ErrDown != 5 || api.ErrLog != 6 || api.ErrCorrupt != 7 {
		t.Error("the limits and errors are not the document's")
	}
}

// P5.1

func TestRightOrdinary(t *testing.T) {
	g := api.Log{Mark: 1, First: 2, Room: 2}
	for n := -3; n < 12; n++ {
		right(t, g, n, n >= 6)
	}
	for _, n := range []int{4095, 4096, 4097, 8192, 1 << 62, api.MaxInt} {
		right(t, g, n, true)
	}
	right(t, g, api.MinInt, false)
	right(t, api.Log{}, 8, false)
	right(t, api.Log{Mark: 2, First: 0, Room: 1}, 3, true)
	right(t, api.Log{Mark: 0, First: 1, Room: 1}, 3, true)
}

func TestRightOfTheRecordsEnd(t *testing.T) {
	for _, n := range []int{8, 4096, 8193, 1 << 32, 1 << 62, api.MaxInt} {
		for _, room := range []int{1, 2, 3} {
			first := n - 2*room
			right(t, api.Log{Mark: 0, First: first, Room: room}, n, true)
			right(t, api.Log{Mark: first - 1, First: first, Room: room}, n, true)
			right(t, api.Log{Mark: 0, First: first + 1, Room: room}, n, false)
			right(t, api.Log{Mark: 0, First: first + 2, Room: room}, n, false)
			right(t, api.Log{Mark: 0, First: first, Room: room + 1}, n, false)
			right(t, api.Log{Mark: 0, First: first, Room: room}, n-1, false)
		}
	}
	// Two lines more than there are numbers: a sum that wraps round would be below n.
	for _, first := range []int{api.MaxInt - 2, api.MaxInt - 1, api.MaxInt} {
		right(t, api.Log{Mark: 0, First: first, Room: 1}, api.MaxInt, first == api.MaxInt-2)
		right(t, api.Log{Mark: 0, First: first, Room: 1}, api.MaxLines, false)
		right(t, api.Log{Mark: 0, First: first, Room: 1}, 8, false)
		right(t, api.Log{Mark: 0, First: first, Room: api.MaxLines}, api.MaxInt, false)
	}
	right(t, api.Log{Mark: api.MaxInt - 1, First: 0, Room: 1}, api.MaxInt, true)
	right(t, api.Log{Mark: api.MaxInt, First: 0, Room: 1}, api.MaxInt, false)
}

func TestRightOfTheMark(t *testing.T) {
	for room := 1; room < 4; room++ {
		for first := range 5 {
			for mark := -2; mark < 16; mark++ {
				within := mark >= first && mark < first+2*room
				g := api.Log{Mark: mark, First: first, Room: room}
				right(t, g, 14, mark >= 0 && mark < 14 && !within)
			}
		}
	}
	right(t, api.Log{Mark: api.MinInt, First: 2, Room: 2}, 8, false)
	right(t, api.Log{Mark: api.MaxInt, First: 2, Room: 2}, 8, false)
}

func TestRightOfFirst(t *testing.T) {
	for _, first := range []int{-1, -2, -4, -5, api.MinInt, api.MinInt + 1} {
		right(t, api.Log{Mark: 6, First: first, Room: 2}, 8, false)
		right(t, api.Log{Mark: 6, First: first, Room: 2}, api.MaxInt, false)
		right(t, api.Log{Mark: 6, First: first, Room: api.MaxLines}, api.MaxInt, false)
	}
	right(t, api.Log{Mark: 6, First: 0, Room: 2}, 8, true)
}

func TestRightOfRoom(t *testing.T) {
	for _, n := range []int{8192, 8193, 8194, 1 << 40, api.MaxInt} {
		right(t, api.Log{Mark: 8192, First: 0, Room: api.MaxLines}, n, n > 8192)
		right(t, api.Log{Mark: 0, First: 1, Room: api.MaxLines}, n, n > 8192)
		right(t, api.Log{Mark: 0, First: 1, Room: api.MaxLines + 1}, n, false)
	}
	for _, room := range []int{0, -1, -2, -4096, api.MinInt, api.MinInt + 1, api.MinInt / 2, 4097, 1 << 62, 1<<62 + 1, 1 << 61, api.MaxInt, api.MaxInt / 2, api.MaxInt/2 + 2} {
		right(t, api.Log{Mark: 0, First: 1, Room: room}, 8, false)
		right(t, api.Log{Mark: 0, First: 1, Room: room}, api.MaxLines, false)
		right(t, api.Log{Mark: 0, First: 1, Room: room}, api.MaxInt, false)
	}
	right(t, api.Log{Mark: 0, First: 1, Room: 1}, 3, true)
	right(t, api.Log{Mark: 0, First: 1, Room: 2047}, api.MaxLines, true)
	right(t, api.Log{Mark: 0, First: 1, Room: 2048}, api.MaxLines, false)
	right(t, api.Log{Mark: 0, First: 0, Room: 2047}, api.MaxLines, false)
	right(t, api.Log{Mark: 4095, First: 0, Room: 2047}, api.MaxLines, true)
}

func TestRightOfEnds(t *testing.T) {
	for _, mark := range ends() {
		for _, first := range ends() {
			for _, room := range []int{api.MinInt, -1, 0, 1, 2, 2047, 2048, 4095, 4096, 4097, 1 << 62, api.MaxInt} {
				g := api.Log{Mark: mark, First: first, Room: room}
				for _, n := range ends() {
					if is := Right(g, n); is != isRight(g, n) {
						t.Fatalf("Right(%+v, %d) = %v", g, n, is)
					}
				}
			}
		}
	}
}

func TestMine(t *testing.T) {
	logs := []api.Log{{Mark: 1, First: 2, Room: 2}, {Mark: 7, First: 2, Room: 2}, {Mark: 6, First: 2, Room: 2}, {Mark: 0, First: 4090, Room: 3}, {Mark: 4095, First: 0, Room: 1}, {Mark: 4095, First: 0, Room: 2047}, {Mark: 0, First: 1, Room: 2047}}
	for _, g := range logs {
		for line := -3; line < 4100; line++ {
			want := line == g.Mark || g.First <= line && line < g.First+2*g.Room
			if is := Mine(g, line); is != want {
				t.Errorf("Mine(%+v, %d) = %v", g, line, is)
			}
		}
		for _, line := range []int{api.MinInt, api.MinInt + 1, -4096, 1 << 62, api.MaxInt - 1, api.MaxInt} {
			if Mine(g, line) {
				t.Errorf("Mine(%+v, %d) is true", g, line)
			}
		}
	}
}

// wrongLogs are right for no number of lines up to MaxLines, though some are for more.
func wrongLogs() []api.Log {
	return []api.Log{
		{}, {Mark: 1, First: 2}, {Mark: 1, First: 2, Room: -1}, {Mark: 1, First: 2, Room: api.MinInt},
		{Mark: 1, First: 2, Room: 2048}, {Mark: 0, First: 1, Room: 2048}, {Mark: 1, First: 2, Room: 4096}, {Mark: 1, First: 2, Room: 4097}, {Mark: 1, First: 2, Room: api.MaxInt}, {Mark: 1, First: 2, Room: 1 << 62},
		{Mark: 1, First: 4095, Room: 1}, {Mark: 1, First: 4096, Room: 1}, {Mark: 1, First: api.MaxInt, Room: 1}, {Mark: 1, First: api.MaxInt - 1, Room: 2}, {Mark: 1, First: -1, Room: 2}, {Mark: 5, First: -2, Room: 2}, {Mark: 1, First: api.MinInt, Room: 2},
		{Mark: 2, First: 2, Room: 2}, {Mark: 3, First: 2, Room: 2}, {Mark: 5, First: 2, Room: 2}, {Mark: -1, First: 2, Room: 2}, {Mark: 4096, First: 2, Room: 2}, {Mark: api.MaxInt, First: 2, Room: 2}, {Mark: api.MinInt, First: 2, Room: 2},
	}
}

func TestMineOfWrongLogs(t *testing.T) {
	for _, g := range wrongLogs() {
		right(t, g, api.MaxLines, false)
		for _, line := range append(ends(), g.Mark, g.First) {
			if Mine(g, line) {
				t.Errorf("Mine(%+v, %d) is true", g, line)
			}
		}
	}
}

// P5.2

// writes holds what Write answers against records and a mark as the document says them.
func writes(t *testing.T, g api.Log, l []api.Change) {
	t.Helper()
	records, mark, e := Write(g, l)
	want := recordsOf(l...)
	if e != api.OK || !bytes.Equal(records, want) || !bytes.Equal(mark, markFor(want)) {
		t.Errorf("Write(%+v, %v) = %v, %v, %v", g, l, records, mark, e)
	}
}

func writeRefused(t *testing.T, g api.Log, l []api.Change, want api.Errno) {
	t.Helper()
	if records, mark, e := Write(g, l); records != nil || mark != nil || e != want {
		t.Errorf("Write(%+v, %d changes) = %v, %v, %v; want none, none, %v", g, len(l), records, mark, e, want)
	}
}

func TestWriteBytes(t *testing.T) {
	// By hand, so that what the other tests reckon is held against something, too.
	records, mark, e := Write(api.Log{Mark: 1, First: 2, Room: 2}, []api.Change{to(258, 9), to(4095, 7)})
	if e != api.OK || len(records) != 256 || len(mark) != 64 {
		t.Fatalf("Write: %d and %d bytes, %v", len(records), len(mark), e)
	}
	for i, x := range records {
		want := byte(0)
		switch {
		case i == 0:
			want = 2
		case i == 1:
			want = 1
		case i == 128:
			want = 255
		case i == 129:
			want = 15
		case i >= 192:
			want = 7
		case i >= 64 && i < 128:
			want = 9
		}
		if x != want {
			t.Errorf("byte %d of the records is %d; want %d", i, x, want)
		}
	}
	sum := crc32.ChecksumIEEE(records)
	if want := append([]byte{2, 0, 0, 0, 0, 0, 0, 0, byte(sum), byte(sum >> 8), byte(sum >> 16), byte(sum >> 24)}, make([]byte, 52)...); !bytes.Equal(mark, want) {
		t.Errorf("the mark is %v; want %v", mark, want)
	}
}

func TestWriteOrdinary(t *testing.T) {
	g := api.Log{Mark: 1, First: 2, Room: 3}
	for _, l := range [][]api.Change{tos(0), tos(8), tos(4095), tos(0, 8), tos(0, 8, 9), tos(9, 258, 4095), tos(4093, 4094, 4095), {to(0, 0)}, {to(0, 0), to(8, 0)}, {to(0, 255), to(8, 255)}} {
		writes(t, g, l)
	}
}

func TestWriteOfNone(t *testing.T) {
	for _, g := range []api.Log{{Mark: 1, First: 2, Room: 1}, {Mark: 0, First: 1, Room: 2047}} {
		for _, l := range [][]api.Change{nil, {}, tos(-1, 1)[:0]} {
			records, mark, e := Write(g, l)
			if len(records) != 0 || !bytes.Equal(mark, make([]byte, 64)) || e != api.OK {
				t.Errorf("Write of none = %v, %v, %v", records, mark, e)
			}
		}
	}
	for _, g := range wrongLogs() {
		writeRefused(t, g, nil, api.ErrArg)
		writeRefused(t, g, []api.Change{}, api.ErrArg)
	}
}

// span are changes to k lines one behind another.
func span(first, k int) []api.Change {
	var l []api.Change
	for i := range k {
		l = append(l, to(first+i, byte(i)))
	}
	return l
}

func TestWriteRoom(t *testing.T) {
	for _, room := range []int{1, 2, 3, 10, 100, 1364, 1365} {
		g := api.Log{Mark: 0, First: 1, Room: room}
		behind := 1 + 2*room
		for _, k := range []int{1, room - 1, room} {
			writes(t, g, span(behind, k))
		}
		if behind+room+1 <= api.MaxLines {
			writeRefused(t, g, span(behind, room+1), api.ErrLog)
			writeRefused(t, g, span(4096-room-1, room+1), api.ErrLog)
		}
	}
	// As many as there are lines beside the log's, more than which no room can take.
	writes(t, api.Log{Mark: 0, First: 1, Room: 1365}, span(2731, 1365))
	writes(t, api.Log{Mark: 0, First: 1, Room: 2047}, span(4095, 1))
	writeRefused(t, api.Log{Mark: 0, First: 1, Room: 1}, span(3, 4093), api.ErrLog)
}

func TestWriteRefusesWrongLogs(t *testing.T) {
	for _, g := range wrongLogs() {
		for _, l := range [][]api.Change{nil, tos(9), tos(9, 8), tos(0, 1, 2, 3, 4, 5, 6, 7, 8, 9, 10), {{}}} {
			writeRefused(t, g, l, api.ErrArg)
		}
	}
}

// wrongChanges are not right for n lines, whatever the log.
func wrongChanges(n int) [][]api.Change {
	l := [][]api.Change{tos(7, 7), tos(7, 0), tos(0, 7, 6), tos(0, 0, 7), {{}}, {{Line: 0}}, {{Line: 0, B: []byte{}}}, {{Line: 7, B: row(63)}}, {{Line: 7, B: row(65)}}, {{Line: 7, B: row(64)[:63]}}, {to(0, 1), {Line: 7, B: row(128)}}, {{Line: 0, B: row(1)}, to(7, 1)}}
	for _, number := range []int{-1, -2, -64, api.MinInt, api.MinInt + 1, n, n + 1, 1 << 32, 1 << 58, 1 << 62, api.MaxInt - 1, api.MaxInt} {
		l = append(l, []api.Change{to(number, 1)}, []api.Change{to(0, 1), to(number, 1)}, []api.Change{to(number, 1), to(7, 1)})
	}
	return l
}

func TestWriteRefusesWrongChanges(t *testing.T) {
	for _, g := range []api.Log{{Mark: 1, First: 2, Room: 2}, {Mark: 1, First: 2, Room: 1}, {Mark: 4000, First: 100, Room: 900}} {
		for _, l := range wrongChanges(api.MaxLines) {
			writeRefused(t, g, l, api.ErrArg)
		}
	}
	g := api.Log{Mark: 1, First: 2, Room: 1}
	writes(t, g, tos(4095))
	writeRefused(t, g, tos(4096), api.ErrArg)
	// What is wrong with one change is told ahead of there being too many.
	writeRefused(t, g, tos(7, 8, 9, 9), api.ErrArg)
	writeRefused(t, g, tos(7, 8, 9, 4096), api.ErrArg)
	writeRefused(t, g, append(tos(7, 8), api.Change{Line: 9}), api.ErrArg)
}

func TestWriteRefusesLinesOfTheLog(t *testing.T) {
	for _, g := range []api.Log{{Mark: 1, First: 2, Room: 2}, {Mark: 7, First: 2, Room: 2}, {Mark: 0, First: 2, Room: 2}, {Mark: 6, First: 2, Room: 2}} {
		for line := range 12 {
			want := api.OK
			if line == g.Mark || line >= 2 && line < 6 {
				want = api.ErrArg
			}
			if want == api.OK {
				writes(t, g, tos(line))
				writes(t, g, tos(line, 12))
				writeRefused(t, g, tos(line, 12, 13), api.ErrLog)
				continue
			}
			writeRefused(t, g, tos(line), api.ErrArg)
			writeRefused(t, g, tos(line, 12), api.ErrArg)
			// It is told ahead of there being too many.
			writeRefused(t, g, tos(line, 12, 13), api.ErrArg)
		}
		writeRefused(t, g, tos(g.Mark, 100, 101, 102), api.ErrArg)
	}
	g := api.Log{Mark: 4095, First: 4091, Room: 2}
	for line := 4091; line < 4096; line++ {
		writeRefused(t, g, tos(0, 1, line), api.ErrArg)
		writeRefused(t, g, tos(0, line), api.ErrArg)
	}
	writeRefused(t, g, tos(0, 1, 2), api.ErrLog)
	writes(t, g, tos(0, 4090))
}

// P5.3

func reads(t *testing.T, g api.Log, image []byte, want ...api.Change) {
	t.Helper()
	if l, e := Read(g, image); e != api.OK || !equal(l, want) {
		t.Errorf("Read(%+v, %d lines) = %v, %v; want %v", g, len(image)/size, l, e, want)
	}
}

func readRefused(t *testing.T, what string, g api.Log, image []byte, want api.Errno) {
	t.Helper()
	if l, e := Read(g, image); l != nil || e != want {
		t.Errorf("%s: Read(%+v, %d bytes) = %v, %v; want none, %v", what, g, len(image), l, e, want)
	}
}

func TestReadOrdinary(t *testing.T) {
	for _, g := range []api.Log{{Mark: 1, First: 2, Room: 3}, {Mark: 8, First: 2, Room: 3}, {Mark: 9, First: 0, Room: 3}, {Mark: 0, First: 6, Room: 3}, {Mark: 5, First: 6, Room: 3}} {
		var free []int
		for line := range 12 {
			if !Mine(g, line) {
				free = append(free, line)
			}
		}
		for bits := range 1 << len(free) {
			var numbers []int
			for i, line := range free {
				if bits>>i&1 == 1 {
					numbers = append(numbers, line)
				}
			}
			if k := len(numbers); k > 3 {
				continue
			}
			l := tos(numbers...)
			for _, image := range [][]byte{make([]byte, 12*size), row(12 * size)} {
				reads(t, g, written(image, g, l...), l...)
				if records, mark, e := Write(g, l); e != api.OK || !bytes.Equal(logged(image, g, records, mark), written(image, g, l...)) {
					t.Errorf("what Write wrote is not what is read: %v", numbers)
				}
			}
		}
	}
}

func TestReadOfNone(t *testing.T) {
	for _, g := range []api.Log{{Mark: 1, First: 2, Room: 2}, {Mark: 7, First: 2, Room: 2}, {Mark: 0, First: 4, Room: 2}} {
		reads(t, g, make([]byte, 8*size))
		// What the records' lines hold does not matter.
		reads(t, g, with(row(8*size), g.Mark*size, make([]byte, 64)...))
		reads(t, g, with(written(row(8*size), g, to(3, 1)), g.Mark*size, make([]byte, 64)...))
	}
}

func TestReadOfTheFirstRecordsAlone(t *testing.T) {
	g := api.Log{Mark: 0, First: 1, Room: 4}
	image := row(12 * size)
	for k := 1; k <= 3; k++ {
		l := tos(9, 10, 11)[:k]
		for _, behind := range [][]byte{nil, full(255), make([]byte, 128), recordsOf(to(0, 1)), recordsOf(to(9, 1))} {
			reads(t, g, with(written(image, g, l...), (1+2*k)*size, behind...), l...)
		}
	}
}

func TestReadSizes(t *testing.T) {
	g := api.Log{Mark: 1, First: 2, Room: 2}
	for _, n := range []int{0, 1, 2, 3, 4, 5} {
		readRefused(t, "too few lines", g, make([]byte, n*size), api.ErrArg)
		readRefused(t, "too few lines", g, row(n*size), api.ErrArg)
	}
	readRefused(t, "no image", g, nil, api.ErrArg)
	for _, n := range []int{6, 7, 100, 4095, 4096} {
		reads(t, g, make([]byte, n*size))
		if n > 6 {
			reads(t, g, written(make([]byte, n*size), g, tos(0, n-1)...), tos(0, n-1)...)
		}
		for _, part := range []int{1, 8, 32, 63} {
			readRefused(t, "no whole lines", g, make([]byte, n*size+part), api.ErrArg)
			readRefused(t, "no whole lines", g, make([]byte, n*size+64)[:n*size+part], api.ErrArg)
		}
	}
	for _, n := range []int{4097, 4098, 8192} {
		readRefused(t, "too many lines", g, make([]byte, n*size), api.ErrArg)
		readRefused(t, "too many lines", g, row(n*size), api.ErrArg)
	}
	// A log that more lines than a device's are enough for.
	readRefused(t, "too many lines", api.Log{Mark: 0, First: 1, Room: 4096}, make([]byte, 8193*size), api.ErrArg)
	readRefused(t, "too many lines", api.Log{Mark: 4096, First: 1, Room: 2}, make([]byte, 4097*size), api.ErrArg)
}

func TestReadRefusesLogs(t *testing.T) {
	for _, image := range [][]byte{make([]byte, 8*size), row(8 * size), make([]byte, 4096*size)} {
		for _, g := range wrongLogs() {
			readRefused(t, "a wrong log", g, image, api.ErrArg)
		}
	}
	// Right for more lines, not for these; and wrong bytes are told behind that.
	for _, g := range []api.Log{{Mark: 1, First: 5, Room: 2}, {Mark: 8, First: 2, Room: 2}, {Mark: 1, First: 2, Room: 4}, {Mark: 0, First: 7, Room: 1}} {
		right(t, g, api.MaxLines, true)
		readRefused(t, "a log of more lines", g, make([]byte, 8*size), api.ErrArg)
		readRefused(t, "a log of more lines", g, row(8*size), api.ErrArg)
	}
}

func TestReadAtTheEnds(t *testing.T) {
	g := api.Log{Mark: 5, First: 6, Room: 1}
	reads(t, g, written(row(8*size), g, tos(4)...), tos(4)...)
	g = api.Log{Mark: 0, First: 1, Room: 1365}
	l := span(2731, 1365)
	reads(t, g, written(row(4096*size), g, l...), l...)
	g = api.Log{Mark: 0, First: 1, Room: 2047}
	reads(t, g, written(row(4096*size), g, tos(4095)...), tos(4095)...)
	g = api.Log{Mark: 4095, First: 0, Room: 2047}
	reads(t, g, written(row(4096*size), g, tos(4094)...), tos(4094)...)
}

func TestReadOfWrongMarks(t *testing.T) {
	g := api.Log{Mark: 1, First: 2, Room: 2}
	image := row(12 * size)
	for _, l := range [][]api.Change{tos(7), tos(0, 11)} {
		records := recordsOf(l...)
		count, sum := uint64(len(l)), uint64(crc32.ChecksumIEEE(records))
		reads(t, g, logged(image, g, records, marked(count, sum)), l...)
		wrong := [][]byte{
			marked(count, 0), marked(count, sum+1), marked(count, sum-1), marked(count, sum^1<<31), marked(count, sum+1<<32), marked(count, sum+1<<62), marked(count, sum+1<<63), marked(count, uint64(^uint32(sum))),
			marked(0, sum), marked(0, 1), marked(0, 1<<63), marked(3-count, sum), marked(count+1<<62, sum), marked(count+1<<63, sum), marked(count+1<<32, sum),
			marked(sum, count), full(255), full(1), full(128),
		}
		for i, mark := range wrong {
			if bytes.Equal(mark, marked(count, sum)) {
				t.Fatalf("mark %d is right", i)
			}
			readRefused(t, "a wrong mark", g, logged(image, g, records, mark), api.ErrCorrupt)
		}
		for at := 16; at < 64; at++ {
			for _, x := range []byte{1, 128, 255} {
				readRefused(t, "a word behind the sum", g, logged(image, g, records, with(marked(count, sum), at, x)), api.ErrCorrupt)
				readRefused(t, "a word of none", g, logged(image, g, records, with(marked(0, 0), at, x)), api.ErrCorrupt)
			}
		}
	}
	for at := range 64 {
		readRefused(t, "a mark of none with a byte", g, logged(make([]byte, 12*size), g, nil, with(marked(0, 0), at, 1)), api.ErrCorrupt)
	}
}

func TestReadOfTooManyRecords(t *testing.T) {
	// The same bytes, with room for them and without.
	l := tos(0, 10, 11)
	wide, narrow := api.Log{Mark: 1, First: 2, Room: 3}, api.Log{Mark: 1, First: 2, Room: 2}
	image := written(row(12*size), wide, l...)
	reads(t, wide, image, l...)
	readRefused(t, "more than Room", narrow, image, api.ErrCorrupt)
	reads(t, narrow, written(row(12*size), narrow, l[:2]...), l[:2]...)
	// More than there are lines, and than there are numbers.
	for _, count := range []uint64{3, 4, 5, 6, 100, 4096, 1 << 20, 1 << 31, 1 << 32, 1 << 55, 1 << 56, 1<<56 + 1, 1 << 57, 1<<57 + 1, 1 << 61, api.MaxWord - 1, api.MaxWord, api.MaxWord + 1, 1 << 63, 1<<64 - 1, 1<<64 - 2} {
		for _, sum := range []uint64{0, 1, uint64(crc32.ChecksumIEEE(image[128:384])), 1<<64 - 1} {
			readRefused(t, "a mark of too many", narrow, logged(image, narrow, nil, marked(count, sum)), api.ErrCorrupt)
		}
	}
	g := api.Log{Mark: 0, First: 1, Room: 1}
	for _, count := range []uint64{2, 3, 1<<57 + 1, api.MaxWord} {
		readRefused(t, "a mark of too many", g, logged(row(3*size), g, nil, marked(count, 0)), api.ErrCorrupt)
	}
}

func TestReadOfWrongRecords(t *testing.T) {
	g := api.Log{Mark: 1, First: 2, Room: 3}
	image := row(12 * size)
	for _, l := range [][]api.Change{tos(9), tos(0, 11), tos(8, 9, 10)} {
		records := recordsOf(l...)
		reads(t, g, logged(image, g, records, markFor(records)), l...)
		// A mark of the very bytes, whose records have something in their seven words.
		for i := range l {
			for at := 8; at < 64; at++ {
				for _, x := range []byte{1, 255} {
					wrong := with(records, 128*i+at, x)
					readRefused(t, "a record's seven words", g, logged(image, g, wrong, markFor(wrong)), api.ErrCorrupt)
				}
			}
		}
		// A mark of other bytes: each byte turned.
		for at := range records {
			wrong := with(records, at, records[at]^0x10)
			readRefused(t, "a byte turned", g, logged(image, g, wrong, markFor(records)), api.ErrCorrupt)
		}
	}
}

func TestReadOfRecordsThatMayNotBe(t *testing.T) {
	g := api.Log{Mark: 1, First: 2, Room: 3}
	image := row(12 * size)
	for _, numbers := range [][]int{
		{9, 9}, {9, 8}, {0, 0}, {11, 0}, {8, 9, 9}, {8, 10, 9}, {8, 8, 9}, {9, 8, 10}, {9, 10, 8}, {10, 9, 8},
		{12}, {13}, {4095}, {4096}, {0, 12}, {9, 10, 12}, {9, 4095}, {9, 4096}, {1 << 32}, {1 << 58}, {1<<58 + 1}, {9, api.MaxWord}, {api.MaxWord}, {api.MaxWord + 1}, {api.MaxInt}, {-1}, {api.MinInt}, {0, -1}, {-1, 0},
		{1}, {2}, {3}, {4}, {5}, {6}, {7}, {0, 1}, {1, 8}, {0, 2}, {0, 7}, {7, 8}, {0, 5, 9}, {1, 2, 3},
	} {
		readRefused(t, "records that may not be", g, written(image, g, tos(numbers...)...), api.ErrCorrupt)
	}
	for _, numbers := range [][]int{{0}, {8}, {11}, {0, 8}, {0, 11}, {9, 10, 11}} {
		reads(t, g, written(image, g, tos(numbers...)...), tos(numbers...)...)
	}
	// One line more, and what was beyond the end is there.
	reads(t, g, written(row(13*size), g, tos(12)...), tos(12)...)
	readRefused(t, "beyond the end", g, written(row(13*size), g, tos(13)...), api.ErrCorrupt)
	reads(t, g, written(row(4096*size), g, tos(12, 4095)...), tos(12, 4095)...)
	readRefused(t, "beyond the end", g, written(row(4096*size), g, tos(12, 4096)...), api.ErrCorrupt)
}

// shouldRead says P5.3 once more, word by word, for any bytes.
func shouldRead(g api.Log, image []byte) ([]api.Change, api.Errno) {
	n := len(image) / size
	if len(image)%size != 0 || n > 4096 || !isRight(g, n) {
		return nil, api.ErrArg
	}
	mark := image[g.Mark*size : g.Mark*size+size]
	if bytes.Equal(mark, make([]byte, size)) {
		return nil, api.OK
	}
	count := binary.LittleEndian.Uint64(mark)
	if count < 1 || count > uint64(g.Room) {
		return nil, api.ErrCorrupt
	}
	records := image[g.First*size : g.First*size+int(count)*128]
	if !bytes.Equal(mark, markFor(records)) {
		return nil, api.ErrCorrupt
	}
	var l []api.Change
	ahead := -1
	for ; len(records) > 0; records = records[128:] {
		number := binary.LittleEndian.Uint64(records)
		if number >= uint64(n) || int(number) <= ahead || !bytes.Equal(records[8:64], make([]byte, 56)) {
			return nil, api.ErrCorrupt
		}
		ahead = int(number)
		if ahead == g.Mark || ahead >= g.First && ahead < g.First+2*g.Room {
			return nil, api.ErrCorrupt
		}
		l = append(l, api.Change{Line: ahead, B: records[64:128]})
	}
	return l, api.OK
}

// draw is a row of numbers that are the same each time.
type draw uint64

func (r *draw) below(n int) int {
	*r = *r*6364136223846793005 + 1442695040888963407
	return int(uint64(*r) >> 33 % uint64(n))
}

// someLog is mostly a right one for n lines.
func (r *draw) someLog(n int) api.Log {
	if r.below(20) == 0 {
		e := ends()
		return api.Log{Mark: e[r.below(len(e))], First: e[r.below(len(e))], Room: e[r.below(len(e))]}
	}
	return api.Log{Mark: r.below(n + 1), First: r.below(n), Room: 1 + r.below(3)}
}

func TestReadOfAnyBytes(t *testing.T) {
	r := draw(7)
	told := map[api.Errno]int{}
	for range 60000 {
		n := 3 + r.below(12)
		g := r.someLog(n)
		image := row(n * size)
		if isRight(g, n) {
			var numbers []int
			for range 1 + r.below(g.Room) {
				numbers = append(numbers, r.below(n+1))
			}
			if r.below(4) > 0 {
				slices.Sort(numbers)
			}
			image = written(image, g, tos(numbers...)...)
			if r.below(4) == 0 {
				image[g.Mark*size+r.below(24)] ^= byte(r.below(3))
			}
			if r.below(6) == 0 {
				copy(image[g.Mark*size:], make([]byte, size))
			}
		}
		want, f := shouldRead(g, image)
		l, e := Read(g, image)
		if e != f || !equal(l, want) {
			t.Fatalf("Read(%+v, %d lines) = %v, %v; want %v, %v", g, n, l, e, want, f)
		}
		if e == api.OK && len(l) > 0 {
			told[-1]++
		}
		told[e]++
	}
	for _, e := range []api.Errno{-1, api.OK, api.ErrArg, api.ErrCorrupt} {
		if told[e] < 1000 {
			t.Errorf("only %d of %v", told[e], e)
		}
	}
}
