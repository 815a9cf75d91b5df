package roots

import (
	"bytes"
	"maps"
	"slices"
	"strings"
	"testing"
	"unsafe"

	"joist/api"
)

// P9.4

const spareOf = 40

// odd is what stands in spare room: no call writes it.
func odd() api.Root { return root("odd one", -77, -78) }

// roomy is a copy of l with spare room behind it.
func roomy(l []api.Root) []api.Root {
	all := append(slices.Clone(l), slices.Repeat([]api.Root{odd()}, spareOf)...)
	return all[:len(l):len(all)]
}

func roomyBytes(b []byte) []byte {
	all := append(slices.Clone(b), bytes.Repeat([]byte{0xee}, spareOf)...)
	return all[:len(b):len(all)]
}

func unchanged(t *testing.T, l, was []api.Root) {
	t.Helper()
	if !slices.Equal(l, was) || slices.ContainsFunc(l[len(l):cap(l)], func(r api.Root) bool { return r != odd() }) {
		t.Fatalf("%v became %v, or its spare room is changed", was, l)
	}
}

// scribble writes over roots, their spare room too.
func scribble(l []api.Root) {
	for k := range l[:cap(l)] {
		l[:cap(l)][k] = odd()
	}
}

func scribbleBytes(b []byte) {
	for i := range b[:cap(b)] {
		b[:cap(b)][i] = 0xee
	}
}

// asked are the names that the tests of memory ask for.
func asked(l []api.Root) []string {
	names := []string{"new", "a", "a b", ""}
	for _, r := range l[:min(len(l), 12)] {
		names = append(names, r.Name)
	}
	return names
}

func TestNothingHandedInIsChanged(t *testing.T) {
	for _, was := range append(rightRoots(), wrongRoots()...) {
		l := roomy(was)
		Right(l)
		Bytes(l)
		for _, name := range asked(was) {
			Get(l, name)
			Set(l, name, to(9, 9))
			Set(l, name, to(-1, 9))
			Drop(l, name)
		}
		unchanged(t, l, was)
	}
}

func TestReadChangesNothing(t *testing.T) {
	for _, l := range append(rightRoots(), twins()...) {
		was := laid(l)
		b := roomyBytes(was)
		Read(b)
		if !bytes.Equal(b, was) || !bytes.Equal(b[len(b):cap(b)], bytes.Repeat([]byte{0xee}, spareOf)) {
			t.Fatal("Read changed its bytes, or their spare room")
		}
	}
}

// TestNothingIsKept: an answer stays as it was, when what was handed in is written over.
func TestNothingIsKept(t *testing.T) {
	for _, was := range rightRoots() {
		for _, name := range asked(was) {
			l := roomy(was)
			first, _ := Set(l, name, to(9, 9))
			second, _ := Drop(l, name)
			wantFirst, wantSecond := slices.Clone(first), slices.Clone(second)
			scribble(l)
			if !slices.Equal(first, wantFirst) || !slices.Equal(second, wantSecond) {
				t.Fatalf("Set or Drop(%v, %q) share memory", was, name)
			}
		}
		l := roomy(was)
		b := bytesOf(t, l)
		scribble(l)
		if !bytes.Equal(b, laid(was)) {
			t.Fatalf("Bytes(%v) shares memory", was)
		}
		in := roomyBytes(b)
		read, _ := Read(in)
		scribbleBytes(in)
		if !slices.Equal(read, was) {
			t.Fatalf("Read of the bytes of %v shares memory", was)
		}
	}
}

// TestAnswersAreNewMemory: what was handed in, and other answers, stay as they were, when an answer and its spare room are written over.
func TestAnswersAreNewMemory(t *testing.T) {
	calls := []func([]api.Root, string) ([]api.Root, api.Errno){
		func(l []api.Root, name string) ([]api.Root, api.Errno) { return Set(l, name, to(9, 9)) },
		Drop,
	}
	for _, was := range rightRoots() {
		l := roomy(was)
		for _, name := range asked(was) {
			for _, call := range calls {
				first, _ := call(l, name)
				second, _ := call(l, name)
				want := slices.Clone(second)
				scribble(first)
				if !slices.Equal(second, want) {
					t.Fatalf("two answers of (%v, %q) share memory", was, name)
				}
				scribble(second)
				unchanged(t, l, was)
			}
		}
	}
}

// TestSameHandleSetAgain: also where nothing becomes another, the answer is new.
func TestSameHandleSetAgain(t *testing.T) {
	for n := 2; n <= maxRoots; n += 2 {
		l := full(n)
		for _, r := range full(n) {
			got := set(t, l, r.Name, r.To)
			if !slices.Equal(got, l) {
				t.Fatalf("Set of %v as it is = %v", r, got)
			}
			scribble(got)
			if !slices.Equal(l, full(n)) {
				t.Fatalf("Set of %v as it is shares memory", r)
			}
		}
	}
}

func TestOtherAnswersAreNewMemory(t *testing.T) {
	for _, was := range rightRoots() {
		scribbleBytes(bytesOf(t, was))
		b := bytesOf(t, was)
		if !bytes.Equal(b, laid(was)) {
			t.Fatalf("two answers of Bytes(%v) share memory", was)
		}
		read, _ := Read(b)
		scribble(read)
		if again, is := Read(b); !slices.Equal(again, was) || !is || !bytes.Equal(b, laid(was)) {
			t.Fatalf("two answers of Read of the bytes of %v share memory", was)
		}
	}
	for n := 2; n <= maxRoots; n += 2 {
		l, _ := New(n)
		scribble(l)
		if again, _ := New(n); !slices.Equal(again, bare(n)) {
			t.Errorf("two answers of New(%d) share memory", n)
		}
	}
}

// apart tells whether no name of a has memory with one of b.
func apart(a, b []api.Root) bool {
	for _, r := range a {
		for _, s := range b {
			if r.Name != "" && s.Name != "" && unsafe.StringData(r.Name) == unsafe.StringData(s.Name) {
				return false
			}
		}
	}
	return true
}

// TestNamesAreNewMemory: W6 speaks of all memory, that of texts too.
func TestNamesAreNewMemory(t *testing.T) {
	for n := 2; n <= maxRoots; n += 2 {
		l := full(n)
		l[n-1] = api.Root{}
		name := strings.Repeat("z", n)
		given := append(slices.Clone(l), root(name, 0, 0))
		if !apart(set(t, l, name, to(1, 2)), given) || !apart(set(t, l, l[0].Name, to(1, 2)), given) || !apart(drop(t, l, l[0].Name), given) {
			t.Errorf("%d roots: an answer's names are the argument's", n)
		}
	}
	b := laid(full(8))
	first, _ := Read(b)
	if second, _ := Read(b); !apart(first, second) {
		t.Error("two answers of Read share names")
	}
}

// P9.5

// keeper knows what was set and dropped, without roots.
type keeper struct {
	l    []api.Root
	held map[string]api.Handle
}

func (m *keeper) set(t *testing.T, name string, h api.Handle) {
	t.Helper()
	if _, is := m.held[name]; !is && len(m.held) == len(m.l) {
		setRefused(t, m.l, name, h, api.ErrTable)
		return
	}
	m.l = set(t, m.l, name, h)
	m.held[name] = h
}

func (m *keeper) drop(t *testing.T, name string) {
	t.Helper()
	if _, is := m.held[name]; !is {
		dropRefused(t, m.l, name, api.ErrName)
		return
	}
	m.l = drop(t, m.l, name)
	delete(m.held, name)
}

// look asks for all names there might be.
func (m *keeper) look(t *testing.T, names []string) {
	t.Helper()
	for _, name := range names {
		want, is := m.held[name]
		if !is {
			getRefused(t, m.l, name, api.ErrName)
			continue
		}
		if h := get(t, m.l, name); h != want {
			t.Fatalf("Get(%v, %q) = %v; want %v", m.l, name, h, want)
		}
	}
	if !Right(m.l) {
		t.Fatalf("%v is not right", m.l)
	}
}

func TestWhatWasSetIsGot(t *testing.T) {
	roll := dice(5)
	for n := 2; n <= maxRoots; n += 2 {
		for range 20 {
			m := &keeper{l: bare(n), held: map[string]api.Handle{}}
			names := goodNames()[:n+1+roll(len(goodNames())-n)]
			for step := range 500 {
				name := names[roll(len(names))]
				if roll(3) == 0 {
					m.drop(t, name)
				} else {
					m.set(t, name, to(roll(lastIndex+1), roll(lastGen+1)))
				}
				if step%10 == 0 {
					// What is read of the bytes goes on like the roots themselves.
					m.l, _ = Read(bytesOf(t, m.l))
				}
				m.look(t, names)
			}
		}
	}
}

// TestOtherNamesStay: at each place, with each name set and dropped, the others' handles are as they were.
func TestOtherNamesStay(t *testing.T) {
	for _, l := range rightRoots() {
		m := &keeper{held: map[string]api.Handle{}}
		for _, r := range l {
			if r.Name != "" {
				m.held[r.Name] = r.To
			}
		}
		all := append(slices.Sorted(maps.Keys(m.held)), "new")
		was := maps.Clone(m.held)
		for _, name := range all {
			m.l, m.held = l, maps.Clone(was)
			m.set(t, name, to(30, 300))
			m.look(t, all)
			m.l, m.held = l, maps.Clone(was)
			m.drop(t, name)
			m.look(t, all)
		}
	}
}
