package memory_test

import (
	"bytes"
	"math"
	"testing"

	"messuage/api"
	"messuage/frames"
	"messuage/memory"
)

const (
	size = api.PageSize
	top  = 262144
	most = 65536
)

// onStore is a memory on a new store.
func onStore(t *testing.T, nodes, each int) (*memory.Memory, *frames.Store) {
	t.Helper()
	s, e := frames.New(nodes, each)
	if e != api.OK {
		t.Fatal(e)
	}
	m, e := memory.New(s)
	if m == nil || e != api.OK {
		t.Fatalf("New = %v, %d", m, e)
	}
	return m, s
}

// pattern is n bytes, others for each kind.
func pattern(kind, n int) []byte {
	b := make([]byte, n)
	for i := range b {
		b[i] = byte(1 + (kind*67+i*5+i/51)%255)
	}
	return b
}

// fill gives each frame a pattern of its own.
func fill(t *testing.T, s *frames.Store) {
	t.Helper()
	for frame := range s.Len() {
		if e := s.Save(frame, 0, pattern(frame, size)); e != api.OK {
			t.Fatal(e)
		}
	}
}

// whole is all bytes of a store.
func whole(t *testing.T, s *frames.Store) []byte {
	t.Helper()
	var all []byte
	for frame := range s.Len() {
		b, e := s.Load(frame, 0, size)
		if e != api.OK {
			t.Fatal(e)
		}
		all = append(all, b...)
	}
	return all
}

// mapped maps pages on frames.
func mapped(t *testing.T, m *memory.Memory, on map[int]int) {
	t.Helper()
	for page, frame := range on {
		if e := m.Map(page, frame); e != api.OK {
			t.Fatalf("Map(%d, %d) = %d", page, frame, e)
		}
	}
	standsOn(t, m, on)
}

// standsOn: just these pages stand on just these frames; no two on one.
func standsOn(t *testing.T, m *memory.Memory, on map[int]int) {
	t.Helper()
	if m.Mapped() != len(on) {
		t.Errorf("Mapped() = %d, not %d", m.Mapped(), len(on))
	}
	under := map[int]int{}
	for page := -1; page <= api.MaxPages; page++ {
		want, is := on[page]
		if frame, ok := m.Frame(page); frame != want || ok != is {
			t.Errorf("Frame(%d) = %d, %v, not %d, %v", page, frame, ok, want, is)
		}
		if is {
			under[want] = page
		}
	}
	if len(under) != len(on) {
		t.Error("two pages stand on one frame")
	}
	for frame := -1; frame <= m.Store().Len(); frame++ {
		want, is := under[frame]
		if page, ok := m.Page(frame); page != want || ok != is {
			t.Errorf("Page(%d) = %d, %v, not %d, %v", frame, page, ok, want, is)
		}
	}
}

// reads: Read answers these bytes.
func reads(t *testing.T, m *memory.Memory, addr int, want []byte) {
	t.Helper()
	if b, e := m.Read(addr, len(want)); !bytes.Equal(b, want) || e != api.OK {
		t.Errorf("Read(%d, %d) = %.80q, %d, not %.80q", addr, len(want), b, e, want)
	}
}

// refuses: neither so many bytes are read from there on, nor written.
func refuses(t *testing.T, m *memory.Memory, addr, n int, want api.Errno) {
	t.Helper()
	if b, e := m.Read(addr, n); len(b) != 0 || e != want {
		t.Errorf("Read(%d, %d) = %d bytes, %d, not %d", addr, n, len(b), e, want)
	}
	if n < 0 || n > 2*top {
		return
	}
	if e := m.Write(addr, bytes.Repeat([]byte("x"), n)); e != want {
		t.Errorf("Write(%d, %d bytes) = %d, not %d", addr, n, e, want)
	}
}

// P7.1: New: no page stands on a frame.
func TestNew(t *testing.T) {
	m, s := onStore(t, 2, 4)
	standsOn(t, m, nil)
	if m.Store() != s {
		t.Error("another store")
	}
	if m, e := memory.New(nil); m != nil || e != api.ErrArg {
		t.Errorf("New(nil) = %v, %d", m, e)
	}
}

// P7.1, P7.2: the document's example.
func TestExample(t *testing.T) {
	m, _ := onStore(t, 1, 4)
	if e := m.Map(1, 0); e != api.OK {
		t.Error(e)
	}
	if e := m.Write(64, []byte("a")); e != api.OK {
		t.Error(e)
	}
	if was, e := m.Move(1, 3); was != 0 || e != api.OK {
		t.Error(was, e)
	}
	reads(t, m, 64, []byte("a"))
}

// P7.1: the first and the last page and frame; the frame's bytes are as they are.
func TestMap(t *testing.T) {
	m, s := onStore(t, 2, 4)
	fill(t, s)
	before := whole(t, s)
	on := map[int]int{0: 7, 4095: 0, 1: 3, 4094: 1, 2000: 6}
	mapped(t, m, on)
	for page, frame := range on {
		reads(t, m, page*size, pattern(frame, size))
	}
	if !bytes.Equal(whole(t, s), before) {
		t.Error("Map changed bytes")
	}
}

// P7.1: what stands on a frame, and what is stood on, isn't mapped again; what is refused changes nothing.
func TestMapRefuses(t *testing.T) {
	m, s := onStore(t, 2, 4)
	fill(t, s)
	before := whole(t, s)
	on := map[int]int{0: 7, 4095: 0, 5: 5}
	mapped(t, m, on)
	for _, p := range [][2]int{{0, 1}, {0, 7}, {1, 7}, {4095, 1}, {1, 0}, {0, 0}, {5, 5}, {6, 5}, {5, 6}} {
		if e := m.Map(p[0], p[1]); e != api.ErrMap {
			t.Errorf("Map%v = %d", p, e)
		}
	}
	for _, p := range noPlaces(8) {
		if e := m.Map(p[0], p[1]); e != api.ErrArg {
			t.Errorf("Map%v = %d", p, e)
		}
	}
	standsOn(t, m, on)
	if !bytes.Equal(whole(t, s), before) {
		t.Error("what was refused changed bytes")
	}
}

// noPlaces are pages and frames of which at least one isn't there, of n frames; the other one may be mapped, or not.
func noPlaces(n int) [][2]int {
	var list [][2]int
	for _, page := range []int{-1, 4096, 4097, -4096, top, math.MaxInt, math.MinInt} {
		for _, frame := range []int{0, 1, n - 1, -1, n} {
			list = append(list, [2]int{page, frame})
		}
	}
	for _, frame := range []int{-1, n, n + 1, 8192, -n, math.MaxInt, math.MinInt} {
		for _, page := range []int{0, 1, 4095} {
			list = append(list, [2]int{page, frame})
		}
	}
	return list
}

// P7.1: Unmap; the frame keeps its bytes, and may be stood on again.
func TestUnmap(t *testing.T) {
	m, s := onStore(t, 2, 4)
	fill(t, s)
	before := whole(t, s)
	mapped(t, m, map[int]int{0: 7, 4095: 0, 5: 5})
	for _, p := range [][2]int{{0, 7}, {4095, 0}} {
		if was, e := m.Unmap(p[0]); was != p[1] || e != api.OK {
			t.Errorf("Unmap(%d) = %d, %d", p[0], was, e)
		}
		if was, e := m.Unmap(p[0]); was != 0 || e != api.ErrMap {
			t.Errorf("Unmap(%d) again = %d, %d", p[0], was, e)
		}
		refuses(t, m, p[0]*size, 1, api.ErrMap)
	}
	for _, page := range []int{1, 7, 4094} {
		if was, e := m.Unmap(page); was != 0 || e != api.ErrMap {
			t.Errorf("Unmap(%d) = %d, %d", page, was, e)
		}
	}
	for _, page := range []int{-1, 4096, math.MaxInt, math.MinInt} {
		if was, e := m.Unmap(page); was != 0 || e != api.ErrArg {
			t.Errorf("Unmap(%d) = %d, %d", page, was, e)
		}
	}
	standsOn(t, m, map[int]int{5: 5})
	if !bytes.Equal(whole(t, s), before) {
		t.Error("Unmap changed bytes")
	}
	if m.Map(9, 7) != api.OK || m.Map(0, 0) != api.OK {
		t.Error("what is free isn't mapped")
	}
	standsOn(t, m, map[int]int{5: 5, 9: 7, 0: 0})
	reads(t, m, 9*size, pattern(7, size))
}

// P7.1, P7.2: Move: the page has the same bytes, no other frame has others, and the one it stood on is free.
func TestMove(t *testing.T) {
	m, s := onStore(t, 2, 4)
	fill(t, s)
	want := whole(t, s)
	on := map[int]int{0: 2, 1: 0, 4095: 7}
	mapped(t, m, on)
	for _, step := range [][3]int{{0, 3, 2}, {4095, 2, 7}, {0, 7, 3}, {1, 1, 0}, {1, 0, 1}, {4095, 6, 2}} {
		page, frame, was := step[0], step[1], step[2]
		held, _ := m.Read(page*size, size)
		if got, e := m.Move(page, frame); got != was || e != api.OK {
			t.Errorf("Move(%d, %d) = %d, %d", page, frame, got, e)
		}
		on[page] = frame
		copy(want[frame*size:], held)
		standsOn(t, m, on)
		reads(t, m, page*size, held)
		if !bytes.Equal(whole(t, s), want) {
			t.Errorf("Move(%d, %d) changed other bytes", page, frame)
		}
	}
	reads(t, m, 0, append(pattern(2, size), pattern(0, size)...))
	reads(t, m, 4095*size, pattern(7, size))
	// What is written now goes to the new frame alone.
	if e := m.Write(4095*size+63, []byte{0}); e != api.OK {
		t.Error(e)
	}
	want[6*size+63] = 0
	if !bytes.Equal(whole(t, s), want) {
		t.Error("written elsewhere")
	}
}

// P7.1, P7.3: Move refuses, its own frame too, and changes nothing.
func TestMoveRefuses(t *testing.T) {
	m, s := onStore(t, 2, 4)
	fill(t, s)
	before := whole(t, s)
	on := map[int]int{0: 7, 4095: 0, 5: 5}
	mapped(t, m, on)
	for _, p := range [][2]int{{0, 7}, {0, 0}, {4095, 5}, {5, 7}, {5, 5}, {1, 1}, {1, 7}, {4094, 6}} {
		if was, e := m.Move(p[0], p[1]); was != 0 || e != api.ErrMap {
			t.Errorf("Move%v = %d, %d", p, was, e)
		}
	}
	for _, p := range noPlaces(8) {
		if was, e := m.Move(p[0], p[1]); was != 0 || e != api.ErrArg {
			t.Errorf("Move%v = %d, %d", p, was, e)
		}
	}
	standsOn(t, m, on)
	if !bytes.Equal(whole(t, s), before) {
		t.Error("what was refused changed bytes")
	}
}

// P7.1: no such page, and no such frame, is none.
func TestNoSuchPageOrFrame(t *testing.T) {
	m, _ := onStore(t, 1, 2)
	mapped(t, m, map[int]int{0: 0, 4095: 1})
	for _, n := range []int{-1, 2, 3, 4096, 4097, top, math.MaxInt, math.MinInt} {
		if page, ok := m.Page(n); page != 0 || ok {
			t.Errorf("Page(%d) = %d, %v", n, page, ok)
		}
		if frame, ok := m.Frame(n); frame != 0 || ok {
			t.Errorf("Frame(%d) = %d, %v", n, frame, ok)
		}
	}
}

// P7.1: bytes over several pages, whose frames stand in another order; all places and counts.
func TestReadAndWrite(t *testing.T) {
	m, s := onStore(t, 1, 8)
	on := []int{6, 2, 7, 0}
	for i, frame := range on {
		m.Map(10+i, frame)
	}
	want := make([]byte, len(on)*size)
	reads(t, m, 10*size, want)
	for at := range len(want) {
		for _, n := range []int{0, 1, 2, 63, 64, 65, 127, 128, 129, 200, len(want) - at} {
			if at+n > len(want) {
				continue
			}
			b := pattern(at+n, n)
			if e := m.Write(10*size+at, b); e != api.OK {
				t.Fatalf("Write(%d, %d bytes) = %d", 10*size+at, n, e)
			}
			copy(want[at:], b)
			reads(t, m, 10*size, want)
			reads(t, m, 10*size+at, b)
		}
	}
	for i, frame := range on {
		if b, _ := s.Load(frame, 0, size); !bytes.Equal(b, want[i*size:(i+1)*size]) {
			t.Errorf("frame %d has other bytes", frame)
		}
	}
	for _, frame := range []int{1, 3, 4, 5} {
		if b, _ := s.Load(frame, 0, size); !bytes.Equal(b, make([]byte, size)) {
			t.Errorf("frame %d was written", frame)
		}
	}
}

// P7.1: the first and the last byte of all addresses.
func TestFirstAndLastAddress(t *testing.T) {
	m, s := onStore(t, 1, 2)
	mapped(t, m, map[int]int{0: 1, 4095: 0})
	if m.Write(0, []byte("a")) != api.OK || m.Write(top-1, []byte("z")) != api.OK {
		t.Error("not written")
	}
	reads(t, m, 0, []byte("a\x00"))
	reads(t, m, top-2, []byte("\x00z"))
	reads(t, m, top-size, append(make([]byte, size-1), 'z'))
	if b, _ := s.Load(0, 63, 1); string(b) != "z" {
		t.Errorf("%q", b)
	}
	for _, wrong := range [][2]int{{top - 1, 2}, {top, 1}, {top - size, size + 1}, {-1, 1}, {-1, 2}} {
		refuses(t, m, wrong[0], wrong[1], api.ErrArg)
	}
	reads(t, m, 0, []byte("a\x00"))
	reads(t, m, top-2, []byte("\x00z"))
}

// P7.1: no byte is of no page, be there a frame or not.
func TestNoByte(t *testing.T) {
	m, s := onStore(t, 1, 2)
	fill(t, s)
	before := whole(t, s)
	mapped(t, m, map[int]int{3: 1})
	for _, addr := range []int{0, 1, 3 * size, 3*size + 5, 4 * size, top - 1, top} {
		for _, none := range [][]byte{nil, {}, pattern(1, 8)[:0]} {
			if e := m.Write(addr, none); e != api.OK {
				t.Errorf("Write(%d, no byte) = %d", addr, e)
			}
		}
		reads(t, m, addr, nil)
	}
	for _, addr := range []int{-1, top + 1, math.MaxInt, math.MinInt} {
		refuses(t, m, addr, 0, api.ErrArg)
	}
	if !bytes.Equal(whole(t, s), before) {
		t.Error("no byte changed bytes")
	}
}

// P7.1: as many bytes as are allowed, and one more.
func TestMostBytes(t *testing.T) {
	m, _ := onStore(t, 8, 1024)
	for page := range api.MaxPages {
		if e := m.Map(page, 8191-page); e != api.OK {
			t.Fatal(page, e)
		}
	}
	if m.Mapped() != api.MaxPages {
		t.Error(m.Mapped())
	}
	for _, addr := range []int{0, 1, 63, 100000, top - most - 1, top - most} {
		b := pattern(addr, most)
		if e := m.Write(addr, b); e != api.OK {
			t.Errorf("Write(%d) = %d", addr, e)
		}
		reads(t, m, addr, b)
	}
	last, _ := m.Read(top-most, most)
	for _, addr := range []int{0, 1, top - most - 1, top - most} {
		refuses(t, m, addr, most+1, api.ErrArg)
	}
	refuses(t, m, 0, top, api.ErrArg)
	for n := range 130 {
		refuses(t, m, top-n, n+1, api.ErrArg)
	}
	refuses(t, m, top-most+1, most, api.ErrArg)
	reads(t, m, top-most, last)
}

// P7.1: numbers that are no address, or no count, ahead of pages without a frame.
func TestWrongAddresses(t *testing.T) {
	m, s := onStore(t, 1, 2)
	fill(t, s)
	before := whole(t, s)
	for _, on := range []map[int]int{nil, {0: 0, 4095: 1}} {
		mapped(t, m, on)
		for _, n := range []int{-1, -64, most + 1, top, top + 1, math.MaxInt, math.MinInt} {
			for _, addr := range []int{0, 1, 64, top - 1, top, -1, top + 1, math.MaxInt, math.MinInt} {
				refuses(t, m, addr, n, api.ErrArg)
			}
		}
		for _, addr := range []int{-1, -64, top + 1, math.MaxInt, math.MaxInt - 63, math.MinInt} {
			for _, n := range []int{0, 1, 64, most} {
				refuses(t, m, addr, n, api.ErrArg)
			}
		}
	}
	if !bytes.Equal(whole(t, s), before) {
		t.Error("what was refused changed bytes")
	}
}

// P7.1: one page without a frame, be it the first, one between or the last: nothing is read, and nothing written.
func TestAPageWithoutFrame(t *testing.T) {
	for missing := range 5 {
		m, s := onStore(t, 1, 8)
		fill(t, s)
		for page := range 5 {
			if page != missing {
				m.Map(page, 7-page)
			}
		}
		before := whole(t, s)
		first, end := missing*size, (missing+1)*size
		for _, stretch := range [][2]int{{0, 5 * size}, {first, 1}, {end - 1, 1}, {first, size}, {0, first + 1}, {end - 1, 5*size - end + 1}} {
			refuses(t, m, stretch[0], stretch[1], api.ErrMap)
		}
		if !bytes.Equal(whole(t, s), before) {
			t.Errorf("without page %d: bytes were written", missing)
		}
		if missing > 0 {
			reads(t, m, 0, before[7*size:7*size+1])
			if e := m.Write(first-1, []byte("y")); e != api.OK {
				t.Error(e)
			}
		}
		if missing < 4 {
			if e := m.Write(end, []byte("y")); e != api.OK {
				t.Error(e)
			}
		}
	}
}

// P7.2, P7.3: many steps; what each page has is kept beside.
func TestManySteps(t *testing.T) {
	m, s := onStore(t, 2, 4)
	held := map[int][]byte{}
	on := map[int]int{}
	under := map[int]bool{}
	state := uint32(7)
	next := func(n int) int {
		state = state*1664525 + 1013904223
		return int(state>>8) % n
	}
	for step := range 4000 {
		page, frame := next(6)*819, next(8)
		was, is := on[page]
		wantMap, wantUnmap, wantMove := api.OK, api.OK, api.OK
		if is || under[frame] {
			wantMap = api.ErrMap
		}
		if !is {
			wantUnmap = api.ErrMap
		}
		if !is || under[frame] {
			wantMove = api.ErrMap
		}
		switch next(4) {
		case 0:
			if e := m.Map(page, frame); e != wantMap {
				t.Fatalf("step %d: Map(%d, %d) = %d", step, page, frame, e)
			}
			if wantMap == api.OK {
				on[page], under[frame] = frame, true
				held[page], _ = s.Load(frame, 0, size)
			}
		case 1:
			if got, e := m.Unmap(page); got != was || e != wantUnmap {
				t.Fatalf("step %d: Unmap(%d) = %d, %d", step, page, got, e)
			}
			if is {
				delete(on, page)
				delete(held, page)
				delete(under, was)
			}
		case 2:
			got, e := m.Move(page, frame)
			if e != wantMove || e == api.OK && got != was || e != api.OK && got != 0 {
				t.Fatalf("step %d: Move(%d, %d) = %d, %d", step, page, frame, got, e)
			}
			if e == api.OK {
				delete(under, was)
				on[page], under[frame] = frame, true
			}
		case 3:
			at := next(size)
			b := pattern(step, next(size-at+1))
			if e := m.Write(page*size+at, b); e != wantUnmap && len(b) > 0 {
				t.Fatalf("step %d: Write = %d", step, e)
			}
			copy(held[page][min(at, len(held[page])):], b)
		}
		for page, b := range held {
			reads(t, m, page*size, b)
		}
		if step%50 == 0 {
			standsOn(t, m, on)
		}
	}
}

// P7.4: what is handed in isn't changed, its spare room neither, and not kept.
func TestBytesAreNotKept(t *testing.T) {
	m, _ := onStore(t, 1, 4)
	mapped(t, m, map[int]int{0: 3, 1: 1})
	room := []byte("abcdefgh")
	if e := m.Write(62, room[2:6]); e != api.OK || string(room) != "abcdefgh" {
		t.Error(string(room), e)
	}
	if e := m.Write(126, room[2:6]); e != api.ErrMap || string(room) != "abcdefgh" {
		t.Error(string(room), e)
	}
	copy(room, "________")
	reads(t, m, 61, []byte("\x00cdef\x00"))
	m.Move(0, 0)
	if string(room) != "________" {
		t.Error("changed afterwards")
	}
	reads(t, m, 61, []byte("\x00cdef\x00"))
}

// P7.4: answers are new memory, their spare room too.
func TestAnswersAreNew(t *testing.T) {
	m, s := onStore(t, 1, 4)
	fill(t, s)
	before := whole(t, s)
	mapped(t, m, map[int]int{0: 3, 1: 1, 2: 2})
	for _, stretch := range [][2]int{{0, 0}, {0, 1}, {0, 64}, {63, 2}, {64, 64}, {10, 150}, {0, 192}} {
		first, _ := m.Read(stretch[0], stretch[1])
		second, _ := m.Read(stretch[0], stretch[1])
		want := bytes.Clone(second)
		first = first[:cap(first)]
		for i := range first {
			first[i] = 0
		}
		if !bytes.Equal(second, want) {
			t.Error("two answers share memory")
		}
	}
	if !bytes.Equal(whole(t, s), before) {
		t.Error("an answer shares memory with the store")
	}
	b, _ := m.Read(0, size)
	m.Write(0, make([]byte, size))
	if !bytes.Equal(b, pattern(3, size)) {
		t.Error("an answer changes with the memory")
	}
}

// P7.4: the store is kept: what either one writes the other one has.
func TestTheStoreIsKept(t *testing.T) {
	m, s := onStore(t, 1, 2)
	m.Map(7, 1)
	s.Save(1, 3, []byte("store"))
	reads(t, m, 7*size+3, []byte("store"))
	m.Write(7*size+3, []byte("pages"))
	if b, _ := m.Store().Load(1, 3, 5); string(b) != "pages" {
		t.Errorf("%q", b)
	}
	other, e := memory.New(s)
	if e != api.OK || other.Mapped() != 0 || other.Map(9, 1) != api.OK {
		t.Error("memories on one store hang on each other", e)
	}
	reads(t, other, 9*size+3, []byte("pages"))
	standsOn(t, m, map[int]int{7: 1})
}

// P7.1, P1: a nil memory, and one that New didn't make.
func TestNilMemory(t *testing.T) {
	for _, m := range []*memory.Memory{nil, {}} {
		for _, n := range []int{0, 1, -1, 4095, 4096, math.MaxInt, math.MinInt} {
			if e := m.Map(n, n); e != api.ErrArg {
				t.Errorf("Map(%d, %d) = %d", n, n, e)
			}
			if was, e := m.Unmap(n); was != 0 || e != api.ErrArg {
				t.Errorf("Unmap(%d) = %d, %d", n, was, e)
			}
			if was, e := m.Move(n, n); was != 0 || e != api.ErrArg {
				t.Errorf("Move(%d, %d) = %d, %d", n, n, was, e)
			}
			if frame, ok := m.Frame(n); frame != 0 || ok {
				t.Errorf("Frame(%d) = %d, %v", n, frame, ok)
			}
			if page, ok := m.Page(n); page != 0 || ok {
				t.Errorf("Page(%d) = %d, %v", n, page, ok)
			}
			refuses(t, m, n, 0, api.ErrArg)
			refuses(t, m, 0, n, api.ErrArg)
		}
		if m.Mapped() != 0 || m.Store() != nil {
			t.Error(m.Mapped(), m.Store())
		}
	}
}

// P1: a store without a frame.
func TestStoreOfNothing(t *testing.T) {
	m, e := memory.New(new(frames.Store))
	if m == nil || e != api.OK {
		t.Fatal(m, e)
	}
	if e := m.Map(0, 0); e != api.ErrArg {
		t.Error(e)
	}
	refuses(t, m, 0, 1, api.ErrMap)
	reads(t, m, 0, nil)
}
