package frames_test

import (
	"bytes"
	"fmt"
	"math"
	"testing"

	"messuage/api"
	"messuage/frames"
)

const size = api.PageSize

// store is one of so many nodes and frames.
func store(t *testing.T, nodes, each int) *frames.Store {
	t.Helper()
	s, e := frames.New(nodes, each)
	if s == nil || e != api.OK {
		t.Fatalf("New(%d, %d) = %v, %d", nodes, each, s, e)
	}
	return s
}

// pattern is 64 bytes, others for each frame.
func pattern(frame int) []byte {
	b := make([]byte, size)
	for i := range b {
		b[i] = byte(1 + (frame*67+i*5+frame/7)%255)
	}
	return b
}

// filled is a store whose frames have their patterns.
func filled(t *testing.T, nodes, each int) *frames.Store {
	t.Helper()
	s := store(t, nodes, each)
	for frame := range nodes * each {
		if e := s.Save(frame, 0, pattern(frame)); e != api.OK {
			t.Fatalf("Save(%d): %d", frame, e)
		}
	}
	return s
}

// whole is all bytes of a store.
func whole(t *testing.T, s *frames.Store) []byte {
	t.Helper()
	var all []byte
	for frame := range s.Len() {
		b, e := s.Load(frame, 0, size)
		if len(b) != size || e != api.OK {
			t.Fatalf("Load(%d) = %v, %d", frame, b, e)
		}
		all = append(all, b...)
	}
	return all
}

// noFrames are numbers of no frame of a store of n.
func noFrames(n int) []int {
	return []int{-1, -n, -size, n, n + 1, n * size, math.MaxInt, math.MaxInt / size, math.MaxInt/size + 2, math.MinInt, math.MinInt / size, 1 << 58}
}

// noStretches are places and counts that are out of a frame's bounds.
var noStretches = [][2]int{
	{-1, 0}, {-1, 1}, {-1, 2}, {0, -1}, {1, -1}, {64, -1}, {65, -1}, {-1, -1}, {-64, 64}, {-1, 65}, {0, 65}, {1, 64}, {63, 2}, {64, 1}, {65, 0}, {65, 1}, {100, 0},
	{math.MaxInt, 0}, {math.MaxInt, 1}, {math.MaxInt, math.MaxInt}, {1, math.MaxInt}, {0, math.MaxInt}, {64, math.MaxInt}, {math.MinInt, 0},
	{math.MinInt, math.MinInt}, {0, math.MinInt}, {1, math.MinInt}, {math.MaxInt, math.MinInt}, {math.MinInt, math.MaxInt}, {-2, math.MaxInt},
}

// P5.1: New, at all counts that are allowed: noughts, and how many.
func TestNewIsNoughts(t *testing.T) {
	for nodes := 1; nodes <= 8; nodes++ {
		for _, each := range []int{1, 2, 3, 4, 7, 64, 1000, 1023, 1024} {
			s := store(t, nodes, each)
			if s.Len() != nodes*each {
				t.Errorf("of %d nodes, %d each: Len() = %d", nodes, each, s.Len())
			}
			if !bytes.Equal(whole(t, s), make([]byte, nodes*each*size)) {
				t.Errorf("of %d nodes, %d each: not noughts", nodes, each)
			}
		}
	}
}

// P5.1: New refuses.
func TestNewRefuses(t *testing.T) {
	wrong := func(nodes, each int) {
		if s, e := frames.New(nodes, each); s != nil || e != api.ErrCount {
			t.Errorf("New(%d, %d) = %v, %d", nodes, each, s, e)
		}
	}
	for _, nodes := range []int{0, -1, 9, -8, math.MaxInt, math.MinInt, 1 << 32, 1<<32 + 1} {
		for _, each := range []int{1, 4, 1024, 0, 1025} {
			wrong(nodes, each)
		}
	}
	for _, each := range []int{0, -1, 1025, 2048, -1024, math.MaxInt, math.MinInt, 1 << 32, 1<<32 + 1} {
		for _, nodes := range []int{1, 2, 8, 0, 9} {
			wrong(nodes, each)
		}
	}
}

// P5.1: Node and First, and the document's example.
func TestNodesOfFrames(t *testing.T) {
	s := store(t, 2, 4)
	if n, e := s.Node(5); n != 1 || e != api.OK {
		t.Error(n, e)
	}
	if f, e := s.First(1); f != 4 || e != api.OK {
		t.Error(f, e)
	}
	for nodes := 1; nodes <= 8; nodes++ {
		for _, each := range []int{1, 2, 3, 5, 8, 1024} {
			s := store(t, nodes, each)
			for node := range nodes {
				if f, e := s.First(node); f != node*each || e != api.OK {
					t.Errorf("of %d, %d: First(%d) = %d, %d", nodes, each, node, f, e)
				}
				for frame := node * each; frame < (node+1)*each; frame++ {
					if n, e := s.Node(frame); n != node || e != api.OK {
						t.Errorf("of %d, %d: Node(%d) = %d, %d", nodes, each, frame, n, e)
					}
				}
			}
			for _, frame := range noFrames(nodes * each) {
				if n, e := s.Node(frame); n != 0 || e != api.ErrArg {
					t.Errorf("of %d, %d: Node(%d) = %d, %d", nodes, each, frame, n, e)
				}
			}
			for _, node := range []int{-1, nodes, nodes + 1, 9, -8, math.MaxInt, math.MinInt} {
				if f, e := s.First(node); f != 0 || e != api.ErrNode {
					t.Errorf("of %d, %d: First(%d) = %d, %d", nodes, each, node, f, e)
				}
			}
		}
	}
}

// P5.1: Load of each place and count of a frame, the first one and the last one among them.
func TestLoad(t *testing.T) {
	s := filled(t, 2, 3)
	for frame := range 6 {
		for at := 0; at <= size; at++ {
			for n := 0; at+n <= size; n++ {
				if b, e := s.Load(frame, at, n); !bytes.Equal(b, pattern(frame)[at:at+n]) || e != api.OK {
					t.Fatalf("Load(%d, %d, %d) = %v, %d", frame, at, n, b, e)
				}
			}
		}
	}
}

// P5.1: Save at each place and count of a frame changes these bytes, and no others.
func TestSave(t *testing.T) {
	for _, frame := range []int{0, 2, 3, 5} {
		s := filled(t, 2, 3)
		want := whole(t, s)
		for at := 0; at <= size; at++ {
			for n := 0; at+n <= size; n++ {
				b := bytes.Repeat([]byte{byte(at*7 + n)}, n)
				if e := s.Save(frame, at, b); e != api.OK {
					t.Fatalf("Save(%d, %d, %d bytes) = %d", frame, at, n, e)
				}
				copy(want[frame*size+at:], b)
				if !bytes.Equal(whole(t, s), want) {
					t.Fatalf("Save(%d, %d, %d bytes) saved others", frame, at, n)
				}
			}
		}
	}
}

// P5.1: Copy, of each frame to each one, itself among them.
func TestCopy(t *testing.T) {
	for from := range 6 {
		for to := range 6 {
			s := filled(t, 2, 3)
			want := whole(t, s)
			copy(want[to*size:], pattern(from))
			if e := s.Copy(from, to); e != api.OK || !bytes.Equal(whole(t, s), want) {
				t.Errorf("Copy(%d, %d): %d", from, to, e)
			}
			// What is changed behind that is one frame alone.
			s.Save(from, 0, []byte{255, 254})
			copy(want[from*size:], []byte{255, 254})
			if !bytes.Equal(whole(t, s), want) {
				t.Errorf("Copy(%d, %d): both are one", from, to)
			}
		}
	}
}

// P5.1: Clear, of each frame.
func TestClear(t *testing.T) {
	for frame := range 6 {
		s := filled(t, 2, 3)
		want := whole(t, s)
		copy(want[frame*size:], make([]byte, size))
		for range 2 {
			if e := s.Clear(frame); e != api.OK || !bytes.Equal(whole(t, s), want) {
				t.Errorf("Clear(%d): %d", frame, e)
			}
		}
	}
}

// P5.1: of no such frame, ahead of what is out of bounds; what is refused changes nothing.
func TestNoSuchFrame(t *testing.T) {
	for _, nodes := range []int{1, 2, 8} {
		s := filled(t, nodes, 4)
		before := whole(t, s)
		for _, frame := range noFrames(nodes * 4) {
			for _, stretch := range append([][2]int{{0, 0}, {0, 1}, {63, 1}, {64, 0}, {0, 64}}, noStretches...) {
				if b, e := s.Load(frame, stretch[0], stretch[1]); len(b) != 0 || e != api.ErrArg {
					t.Errorf("Load(%d, %v) = %v, %d", frame, stretch, b, e)
				}
				if e := s.Save(frame, stretch[0], make([]byte, max(0, min(stretch[1], 200)))); e != api.ErrArg {
					t.Errorf("Save(%d, %v) = %d", frame, stretch, e)
				}
			}
			for _, other := range []int{0, nodes*4 - 1, frame, -1} {
				if e := s.Copy(frame, other); e != api.ErrArg {
					t.Errorf("Copy(%d, %d) = %d", frame, other, e)
				}
				if e := s.Copy(other, frame); e != api.ErrArg {
					t.Errorf("Copy(%d, %d) = %d", other, frame, e)
				}
			}
			if e := s.Clear(frame); e != api.ErrArg {
				t.Errorf("Clear(%d) = %d", frame, e)
			}
		}
		if !bytes.Equal(whole(t, s), before) {
			t.Error("what was refused changed the store")
		}
	}
}

// P5.1: out of a frame's bounds; what is refused changes nothing.
func TestOutOfBounds(t *testing.T) {
	s := filled(t, 2, 2)
	before := whole(t, s)
	for frame := range 4 {
		for _, stretch := range noStretches {
			if b, e := s.Load(frame, stretch[0], stretch[1]); len(b) != 0 || e != api.ErrBound {
				t.Errorf("Load(%d, %v) = %v, %d", frame, stretch, b, e)
			}
		}
		for _, at := range []int{-1, -64, 65, 66, math.MaxInt, math.MaxInt - 63, math.MinInt} {
			for _, n := range []int{0, 1, 64, 65, 1000} {
				if e := s.Save(frame, at, bytes.Repeat([]byte("x"), n)); e != api.ErrBound {
					t.Errorf("Save(%d, %d, %d bytes) = %d", frame, at, n, e)
				}
			}
		}
		for at := 0; at <= size; at++ {
			for _, more := range []int{1, 2, 64, 100000} {
				if e := s.Save(frame, at, bytes.Repeat([]byte("x"), size-at+more)); e != api.ErrBound {
					t.Errorf("Save(%d, %d, %d bytes) = %d", frame, at, size-at+more, e)
				}
			}
		}
	}
	if !bytes.Equal(whole(t, s), before) {
		t.Error("what was refused changed the store")
	}
}

// P5.1, P1: a nil store.
func TestNilStore(t *testing.T) {
	var s *frames.Store
	if s.Len() != 0 {
		t.Error(s.Len())
	}
	for _, n := range []int{0, -1, 1, 8, math.MaxInt, math.MinInt} {
		if node, e := s.Node(n); node != 0 || e != api.ErrArg {
			t.Errorf("Node(%d) = %d, %d", n, node, e)
		}
		if f, e := s.First(n); f != 0 || e != api.ErrArg {
			t.Errorf("First(%d) = %d, %d", n, f, e)
		}
		if b, e := s.Load(n, 0, 0); len(b) != 0 || e != api.ErrArg {
			t.Errorf("Load(%d) = %v, %d", n, b, e)
		}
		if b, e := s.Load(0, n, n); len(b) != 0 || e != api.ErrArg {
			t.Errorf("Load(0, %d, %d) = %v, %d", n, n, b, e)
		}
		for _, b := range [][]byte{nil, {1}, make([]byte, 100)} {
			if e := s.Save(n, n, b); e != api.ErrArg {
				t.Errorf("Save(%d, %d) = %d", n, n, e)
			}
		}
		if e := s.Copy(n, n); e != api.ErrArg {
			t.Errorf("Copy(%d, %d) = %d", n, n, e)
		}
		if e := s.Clear(n); e != api.ErrArg {
			t.Errorf("Clear(%d) = %d", n, e)
		}
	}
}

// P1: a store that New didn't make has no frame.
func TestStoreOfNothing(t *testing.T) {
	s := new(frames.Store)
	if s.Len() != 0 {
		t.Error(s.Len())
	}
	if n, e := s.Node(0); n != 0 || e != api.ErrArg {
		t.Error(n, e)
	}
	if f, e := s.First(0); f != 0 || e != api.ErrNode {
		t.Error(f, e)
	}
	if b, e := s.Load(0, 0, 0); len(b) != 0 || e != api.ErrArg {
		t.Error(b, e)
	}
	if e := s.Save(0, 0, nil); e != api.ErrArg {
		t.Error(e)
	}
	if s.Copy(0, 0) != api.ErrArg || s.Clear(0) != api.ErrArg {
		t.Error("a frame of nothing")
	}
}

// P5.2: what is handed in isn't changed, its spare room neither, and not kept.
func TestBytesAreNotKept(t *testing.T) {
	s := store(t, 1, 2)
	room := []byte("abcdefgh")
	if e := s.Save(1, 10, room[2:4]); e != api.OK || string(room) != "abcdefgh" {
		t.Error(string(room), e)
	}
	if e := s.Save(1, 63, room[2:4]); e != api.ErrBound || string(room) != "abcdefgh" {
		t.Error(string(room), e)
	}
	copy(room, "________")
	if b, _ := s.Load(1, 9, 4); string(b) != "\x00cd\x00" {
		t.Errorf("kept: %q", b)
	}
	full := pattern(7)
	s.Save(0, 0, full)
	clear(full)
	if b, _ := s.Load(0, 0, size); !bytes.Equal(b, pattern(7)) {
		t.Error("a whole frame is kept")
	}
	s.Clear(0)
	s.Copy(1, 0)
	if string(room) != "________" || !bytes.Equal(full, make([]byte, size)) {
		t.Error("changed afterwards")
	}
}

// P5.2: answers are new memory, their spare room too.
func TestAnswersAreNew(t *testing.T) {
	s := filled(t, 1, 3)
	before := whole(t, s)
	for _, stretch := range [][2]int{{0, 64}, {0, 0}, {64, 0}, {5, 0}, {0, 1}, {5, 10}, {63, 1}} {
		for frame := range 3 {
			first, _ := s.Load(frame, stretch[0], stretch[1])
			second, _ := s.Load(frame, stretch[0], stretch[1])
			first = first[:cap(first)]
			for i := range first {
				first[i] = 99
			}
			if !bytes.Equal(second, pattern(frame)[stretch[0]:stretch[0]+stretch[1]]) {
				t.Error("two answers share memory")
			}
		}
	}
	if !bytes.Equal(whole(t, s), before) {
		t.Error("an answer shares memory with its store")
	}
	b, _ := s.Load(1, 0, size)
	s.Clear(1)
	s.Copy(2, 1)
	if !bytes.Equal(b, pattern(1)) {
		t.Error("an answer changes with its store")
	}
}

// P5.1: stores don't hang on each other.
func TestStoresAreApart(t *testing.T) {
	a, b := filled(t, 1, 2), store(t, 1, 2)
	b.Save(0, 0, []byte("other"))
	if got, want := whole(t, a), fmt.Sprintf("%s%s", pattern(0), pattern(1)); string(got) != want {
		t.Error("one store changed the other one")
	}
}
