package heapmap_test

import (
	"fmt"
	"math"
	"slices"
	"strings"
	"testing"

	"messuage/alloc"
	"messuage/api"
	"messuage/audit"
	"messuage/heap"
	"messuage/heapmap"
	"messuage/nodeset"
	"messuage/policy"
	"messuage/topo"
)

// odd are numbers at the ends of all that an int can be, and near to such limits as chapters name.
var odd = []int{
	-1, -2, -8, 8, 9, 255, 256, 1023, 1024, 4096, 1 << 32, 1<<32 + 1, math.MaxInt, math.MaxInt - 1, math.MinInt, math.MinInt + 1,
}

// line is nodes side by side in a line: the farther apart two numbers are, the greater is the distance.
func line(nodes, each int, cpus ...int) topo.Topo {
	t := topo.Topo{Nodes: nodes, Frames: each, CPUs: cpus}
	for from := range nodes {
		var row []int
		for to := range nodes {
			row = append(row, 10+10*max(from-to, to-from))
		}
		t.Dist = append(t.Dist, row)
	}
	return t
}

func made(t *testing.T, shape topo.Topo) *alloc.Machine {
	t.Helper()
	m, e := alloc.New(shape, heap.Marks{})
	if m == nil || e != api.OK {
		t.Fatalf("New(%v) = %v, %d", shape, m, e)
	}
	return m
}

func malloc(t *testing.T, m *alloc.Machine, cpu, n int) int {
	t.Helper()
	addr, e := m.Malloc(cpu, n)
	if addr <= 0 || e != api.OK {
		t.Fatalf("Malloc(%d, %d) = %d, %d", cpu, n, addr, e)
	}
	return addr
}

// touch has pages of a large object stand on frames, that are counted from the object's first one.
func touch(t *testing.T, m *alloc.Machine, cpu, addr int, pages ...int) {
	t.Helper()
	for _, page := range pages {
		tells(t, "Write", m.Write(cpu, addr, 64*page, []byte{1}), api.OK, cpu, addr, page)
	}
}

func tells(t *testing.T, what string, got, want api.Errno, arguments ...int) {
	t.Helper()
	if got != want {
		t.Errorf("%s%v = %d, not %d", what, arguments, got, want)
	}
}

// frames looks at all nodes, one by one.
func frames(t *testing.T, m *alloc.Machine, wants ...string) {
	t.Helper()
	for node, want := range wants {
		if got := heapmap.Frames(m, node); got != want {
			t.Errorf("Frames(%d) = %q, not %q", node, got, want)
		}
	}
}

func pages(t *testing.T, m *alloc.Machine, want string) {
	t.Helper()
	if got := heapmap.Pages(m); got != want {
		t.Errorf("Pages() = %q, not %q", got, want)
	}
}

// P22.1: a new machine has a sign for each frame, none of which has a page, and no page to tell of.
func TestNew(t *testing.T) {
	for nodes := 1; nodes <= 8; nodes++ {
		for each := 1; each <= 1024; each *= 2 {
			m := made(t, line(nodes, each, 0))
			frames(t, m, slices.Repeat([]string{strings.Repeat(".", each)}, nodes)...)
			pages(t, m, "")
		}
	}
}

// P22.1: of no such node Frames is nothing.
func TestNoSuchNode(t *testing.T) {
	m := made(t, line(2, 4, 0, 1))
	touch(t, m, 0, malloc(t, m, 0, 100), 0, 1)
	for _, node := range append([]int{2, 3, 7}, odd...) {
		if got := heapmap.Frames(m, node); got != "" {
			t.Errorf("Frames(%d) = %q", node, got)
		}
	}
}

// P22.1, P1: a nil machine, and one that New didn't make, have nothing.
func TestNil(t *testing.T) {
	for _, m := range []*alloc.Machine{nil, {}} {
		for _, node := range append([]int{0, 1}, odd...) {
			if got := heapmap.Frames(m, node); got != "" {
				t.Errorf("Frames(%v, %d) = %q", m, node, got)
			}
		}
		pages(t, m, "")
	}
}

// P22.1: the frames and pages of spans, of each class as many as its run has.
func TestSpans(t *testing.T) {
	for i, c := range []struct {
		n             int
		frames, pages string
	}{
		{1, "s.......", ".s"}, {8, "s.......", ".s"}, {9, "s.......", ".s"}, {16, "s.......", ".s"},
		{17, "ss......", ".ss"}, {32, "ss......", ".ss"}, {33, "ssss....", ".ssss"}, {64, "ssss....", ".ssss"},
	} {
		m := made(t, line(2, 8, 0, 1))
		addr := malloc(t, m, 0, c.n)
		frames(t, m, c.frames, "........")
		pages(t, m, c.pages)
		// What is in a cache is taken, and what is free in its span has its frames still.
		tells(t, "Free", m.Free(0, addr), api.OK, i)
		pages(t, m, c.pages)
		m.Flush(0)
		frames(t, m, c.frames, "........")
		pages(t, m, c.pages)
		m.Release()
		frames(t, m, "........", "........")
		pages(t, m, "")
	}
}

// P22.1: spans of several classes and nodes, side by side and apart.
func TestManySpans(t *testing.T) {
	m := made(t, line(3, 8, 0, 2))
	malloc(t, m, 0, 8)  // a run of one frame of node 0
	malloc(t, m, 1, 64) // a run of four of node 2
	malloc(t, m, 0, 32) // a run of two of node 0, that begins at a multiple of two
	malloc(t, m, 1, 16)
	frames(t, m, "s.ss....", "........", "sssss...")
	pages(t, m, ".ssssssss")
}

// P22.1: the pages of large objects, as they come to frames of all nodes and go from them.
func TestLarge(t *testing.T) {
	m := made(t, line(8, 4, 0, 1, 2, 3, 4, 5, 6, 7))
	addr := malloc(t, m, 0, 1024)
	pages(t, m, "."+strings.Repeat("-", 16))
	for cpu := range 8 {
		touch(t, m, cpu, addr, 2*cpu)
		frames(t, m, strings.Split(strings.Repeat("p...|", cpu+1)+strings.Repeat("....|", 7-cpu), "|")[:8]...)
	}
	pages(t, m, ".0-1-2-3-4-5-6-7-")
	tells(t, "Move", m.Move(addr/64+2, 7, false), api.OK)
	frames(t, m, "p...", "....", "p...", "p...", "p...", "p...", "p...", "pp..")
	pages(t, m, ".0-7-2-3-4-5-6-7-")
	tells(t, "Free", m.Free(3, addr), api.OK)
	frames(t, m, "....", "....", "....", "....", "....", "....", "....", "....")
	pages(t, m, "")
}

// P22.1: what an object was asked for says how many pages it has.
func TestSizesOfLargeOnes(t *testing.T) {
	for n := 65; n <= 1024; n++ {
		m := made(t, line(1, 4, 0))
		malloc(t, m, 0, n)
		pages(t, m, "."+strings.Repeat("-", (n+63)/64))
		frames(t, m, "....")
	}
}

// P22.1: pages go on up to the last one of an object or a span, whichever of the two it is of, with those of none between.
func TestLastPage(t *testing.T) {
	m := made(t, line(2, 8, 0, 1))
	first := malloc(t, m, 0, 100)
	middle := malloc(t, m, 0, 8)
	second := malloc(t, m, 0, 130)
	last := malloc(t, m, 1, 20)
	touch(t, m, 1, second, 2)
	touch(t, m, 0, first, 1)
	pages(t, m, ".-0s--1ss")
	frames(t, m, "sp......", "ssp.....")
	tells(t, "Free", m.Free(0, first), api.OK)
	pages(t, m, "...s--1ss")
	tells(t, "Free", m.Free(0, middle), api.OK)
	m.Flush(0)
	m.Release()
	pages(t, m, "....--1ss")
	frames(t, m, "........", "ssp.....")
	tells(t, "Free", m.Free(1, last), api.OK)
	m.Flush(1)
	m.Release()
	pages(t, m, "....--1")
	frames(t, m, "........", "..p.....")
	tells(t, "Free", m.Free(0, second), api.OK)
	pages(t, m, "")
}

// P22.1: a frame that is taken has no sign of its own, if no page stands on it.
func TestTakenFramesWithoutPages(t *testing.T) {
	m := made(t, line(2, 8, 0, 1))
	for range 3 {
		if _, e := m.Heap().Take(0, 0); e != api.OK {
			t.Fatal(e)
		}
	}
	frames(t, m, "........", "........")
	touch(t, m, 0, malloc(t, m, 0, 128), 1)
	frames(t, m, "...p....", "........")
	pages(t, m, ".-0")
}

// P22.1: all pages that there are, and all frames.
func TestAllPagesAndFrames(t *testing.T) {
	m := made(t, line(8, 1024, 0))
	for range 255 {
		malloc(t, m, 0, 1024)
	}
	last := malloc(t, m, 0, 15*64)
	pages(t, m, "."+strings.Repeat("-", 4095))
	touch(t, m, 0, last, 14)
	pages(t, m, "."+strings.Repeat("-", 4094)+"0")
	for _, addr := range m.Live() {
		size, _ := m.Size(addr)
		for page := range size / 64 {
			touch(t, m, 0, addr, page)
		}
	}
	whole, none := strings.Repeat("p", 1024), strings.Repeat(".", 1024)
	frames(t, m, whole, whole, whole, strings.Repeat("p", 1023)+".", none, none, none, none)
	if got := heapmap.Pages(m); len(got) != 4096 || strings.Count(got, "0") != 1024 || strings.Count(got, "3") != 1023 {
		t.Errorf("Pages() = %q", heapmap.Pack(got))
	}
}

// stepper does steps on a machine.
type stepper struct {
	t    *testing.T
	m    *alloc.Machine
	seed uint32
}

func (s *stepper) next(n int) int {
	s.seed = s.seed*1664525 + 1013904223
	return int(s.seed>>8) % n
}

// addr is that of a live object; 0 if there is none.
func (s *stepper) addr() int {
	live := s.m.Live()
	if len(live) == 0 {
		return 0
	}
	return live[s.next(len(live))]
}

func (s *stepper) step() {
	shape := s.m.Topo()
	cpu, addr := s.next(len(shape.CPUs)), s.addr()
	p := policy.Policy{Mode: s.next(4), Set: nodeset.Set(1 + s.next(1<<shape.Nodes-1)), Node: s.next(shape.Nodes)}
	switch s.next(10) {
	case 0, 1:
		s.m.Malloc(cpu, 1+s.next(64))
	case 2:
		s.m.Malloc(cpu, 65+s.next(960))
	case 3, 4:
		size, _ := s.m.Size(addr)
		at := s.next(size + 1)
		s.m.Write(cpu, addr, at, make([]byte, min(size-at, s.next(100))))
	case 5, 6:
		s.m.Free(cpu, addr)
	case 7:
		s.m.SetPolicy(cpu, p)
	case 8:
		s.m.Flush(cpu)
		s.m.Drain(s.next(shape.Nodes))
		s.m.Release()
	case 9:
		for _, page := range s.m.Pages() {
			s.m.Move(page, s.next(shape.Nodes), s.next(2) == 0)
		}
	}
}

// signs is what the calls shall tell, by the words of the chapter and with other calls than those of pages and frames.
func signs(t *testing.T, m *alloc.Machine) (byNode []string, byPage string) {
	t.Helper()
	shape := m.Topo()
	all := []byte(strings.Repeat(".", shape.Nodes*shape.Frames))
	page := []byte(strings.Repeat(".", api.MaxPages))
	stand := func(at int, sign byte) {
		if frame, stands := m.Memory().Frame(at); stands {
			all[frame] = sign
		}
	}
	last := -1
	for _, span := range m.Spans() {
		for i := range []int{1, 1, 2, 4}[span.Class] {
			page[span.Page+i] = 's'
			stand(span.Page+i, 's')
			last = max(last, span.Page+i)
		}
	}
	for _, addr := range m.Live() {
		size, _ := m.Size(addr)
		for at := 0; size > 64 && at < size; at += 64 {
			page[(addr+at)/64] = '-'
			if node, e := m.Node(addr, at); e == api.OK {
				page[(addr+at)/64] = fmt.Sprint(node)[0]
			}
			stand((addr+at)/64, 'p')
			last = max(last, (addr+at)/64)
		}
	}
	for node := range shape.Nodes {
		byNode = append(byNode, string(all[node*shape.Frames:(node+1)*shape.Frames]))
	}
	return byNode, string(page[:last+1])
}

// view is all that can be seen of a machine.
func view(m *alloc.Machine) string {
	var b strings.Builder
	shape := m.Topo()
	fmt.Fprint(&b, shape, m.Live(), m.Spans(), m.Pages(), m.Log().Events(), m.Heap().Marks())
	for _, addr := range m.Live() {
		size, e := m.Size(addr)
		fmt.Fprint(&b, " ", addr, size, e)
	}
	for page := range api.MaxPages {
		if frame, stands := m.Memory().Frame(page); stands {
			bytes, _ := m.Memory().Read(page*64, 64)
			fmt.Fprint(&b, " ", page, frame, bytes)
		}
		if p, has := m.Book().Of(page); has {
			fmt.Fprint(&b, " ", page, p)
		}
	}
	for node := range shape.Nodes {
		free, _ := m.Heap().Free(node)
		counts, _ := m.Log().Node(node)
		fmt.Fprint(&b, " ", free, counts)
	}
	for order := range 11 {
		fmt.Fprint(&b, " ", m.Heap().All(order))
	}
	return b.String()
}

// P22.1: along many steps, and looking changes nothing; as many frames have each sign as the audit's sums tell (P6).
func TestManySteps(t *testing.T) {
	for i, shape := range []topo.Topo{line(1, 16, 0), line(2, 32, 0, 1), line(3, 16, 2, 1, 0, 0), line(8, 64, 0, 3, 5, 7)} {
		s := &stepper{t: t, m: made(t, shape), seed: uint32(i + 1)}
		for range 2000 {
			s.step()
			wantFrames, wantPages := signs(t, s.m)
			frames(t, s.m, wantFrames...)
			pages(t, s.m, wantPages)
			for node, sums := range audit.Nodes(s.m) {
				got := heapmap.Frames(s.m, node)
				if strings.Count(got, "s") != sums.Spans || strings.Count(got, "p") != sums.Pages || strings.Count(got, ".") != sums.Free {
					t.Fatalf("Frames(%d) = %q of %v", node, got, sums)
				}
			}
		}
		was := view(s.m)
		for node := -1; node <= shape.Nodes; node++ {
			heapmap.Frames(s.m, node)
		}
		heapmap.Pages(s.m)
		if now := view(s.m); now != was {
			t.Errorf("looking changed %s to %s", was, now)
		}
		for range 100 {
			s.step()
		}
		other := &stepper{t: t, m: made(t, shape), seed: uint32(i + 1)}
		for range 2100 {
			other.step()
		}
		if a, b := view(s.m), view(other.m); a != b {
			t.Errorf("one that was looked at is %s, one that wasn't is %s", a, b)
		}
	}
}
