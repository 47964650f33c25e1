package report_test

import (
	"fmt"
	"slices"
	"strings"
	"testing"

	"messuage/alloc"
	"messuage/api"
	"messuage/heap"
	"messuage/nodeset"
	"messuage/policy"
	"messuage/report"
	"messuage/stats"
	"messuage/topo"
)

// line is nodes side by side in a line: the farther apart two numbers are, the greater is the distance.
func line(nodes, each int, cpus ...int) topo.Topo {
	t := topo.Topo{Nodes: nodes, Frames: each, CPUs: cpus}
	for from := range nodes {
		var row []int
		for to := range nodes {
			row = append(row, 10+10*max(from-to, to-from))
		}
		t.Dist = append(t.Dist, row)
	}
	return t
}

func made(t *testing.T, shape topo.Topo) *alloc.Machine {
	t.Helper()
	m, e := alloc.New(shape, heap.Marks{})
	if m == nil || e != api.OK {
		t.Fatalf("New(%v) = %v, %d", shape, m, e)
	}
	return m
}

func malloc(t *testing.T, m *alloc.Machine, cpu, n int) int {
	t.Helper()
	addr, e := m.Malloc(cpu, n)
	if addr <= 0 || e != api.OK {
		t.Fatalf("Malloc(%d, %d) = %d, %d", cpu, n, addr, e)
	}
	return addr
}

// touch has pages of a large object stand on frames, that are counted from the object's first one.
func touch(t *testing.T, m *alloc.Machine, cpu, addr int, pages ...int) {
	t.Helper()
	for _, page := range pages {
		tells(t, "Write", m.Write(cpu, addr, 64*page, []byte{1}), api.OK, cpu, addr, page)
	}
}

func free(t *testing.T, m *alloc.Machine, cpu, addr int) {
	t.Helper()
	tells(t, "Free", m.Free(cpu, addr), api.OK, cpu, addr)
}

func bindTo(nodes ...int) policy.Policy {
	p := policy.Policy{Mode: policy.Bind}
	for _, node := range nodes {
		p.Set |= 1 << node
	}
	return p
}

func tells(t *testing.T, what string, got, want api.Errno, arguments ...int) {
	t.Helper()
	if got != want {
		t.Errorf("%s%v = %d, not %d", what, arguments, got, want)
	}
}

// reads compares a text with lines, each of which has a line end.
func reads(t *testing.T, what, got string, lines ...string) {
	t.Helper()
	want := ""
	for _, line := range lines {
		want += line + "\n"
	}
	if got != want {
		t.Errorf("%s: %q, not %q", what, got, want)
	}
}

// P24.1: the document's example, and the nodes: of all frames none was given, and nothing is counted.
func TestNew(t *testing.T) {
	for nodes := 1; nodes <= 8; nodes++ {
		for each := 1; each <= 1024; each *= 2 {
			m := made(t, line(nodes, each, 0))
			reads(t, "Objects", report.Objects(m))
			reads(t, "Spans", report.Spans(m))
			var want []string
			for node := range nodes {
				want = append(want, fmt.Sprintf("node %d: %d free, 0 spans, 0 pages; hit 0, miss 0, foreign 0, local 0, other 0, interleave 0", node, each))
			}
			reads(t, "Nodes", report.Nodes(m), want...)
		}
	}
}

// P24.1, P1: of a nil machine, and of one that New didn't make, there is nothing.
func TestNil(t *testing.T) {
	for _, m := range []*alloc.Machine{nil, {}} {
		for _, call := range []func(*alloc.Machine) string{report.Nodes, report.Objects, report.Spans} {
			if got := call(m); got != "" {
				t.Errorf("of %v: %q", m, got)
			}
		}
	}
}

// P24.1: free frames, those of spans (of each class as many as its run has), those of pages, of each node its own.
func TestSums(t *testing.T) {
	m := made(t, line(2, 16, 0, 1))
	malloc(t, m, 0, 64)
	touch(t, m, 1, malloc(t, m, 1, 200), 0, 2, 3)
	reads(t, "Nodes", report.Nodes(m),
		"node 0: 12 free, 4 spans, 0 pages; hit 1, miss 0, foreign 0, local 1, other 0, interleave 0",
		"node 1: 13 free, 0 spans, 3 pages; hit 3, miss 0, foreign 0, local 3, other 0, interleave 0",
	)
	touch(t, m, 0, malloc(t, m, 0, 200), 1)
	tells(t, "SetPolicy", m.SetPolicy(1, bindTo(0)), api.OK)
	malloc(t, m, 1, 8)
	malloc(t, m, 1, 32)
	// For the CPU of node 1 the frames come from node 0, and the search begins at node 1.
	reads(t, "Nodes", report.Nodes(m),
		"node 0: 8 free, 7 spans, 1 pages; hit 2, miss 2, foreign 0, local 2, other 2, interleave 0",
		"node 1: 13 free, 0 spans, 3 pages; hit 3, miss 0, foreign 2, local 3, other 0, interleave 0",
	)
}

// P24.1: which count stands where: of these events each one comes to another number.
func TestCounts(t *testing.T) {
	m := made(t, line(3, 16, 0, 1, 2))
	for n, x := range []stats.Event{
		{Node: 0, Start: 0, Own: 0}, {Node: 0, Start: 0, Own: 1, Interleave: true}, {Node: 0, Start: 1, Own: 1}, {Node: 2, Start: 0, Own: 0},
		{Node: 1, Start: 2, Own: 1},
	} {
		for range []int{20, 3, 7, 11, 5}[n] {
			tells(t, "Add", m.Log().Add(x), api.OK, n)
		}
	}
	reads(t, "Nodes", report.Nodes(m),
		"node 0: 16 free, 0 spans, 0 pages; hit 23, miss 7, foreign 11, local 20, other 10, interleave 3",
		"node 1: 16 free, 0 spans, 0 pages; hit 0, miss 5, foreign 7, local 5, other 0, interleave 0",
		"node 2: 16 free, 0 spans, 0 pages; hit 0, miss 11, foreign 5, local 0, other 11, interleave 0",
	)
}

// P24.1: a machine of eight nodes has eight lines, and an object may have its pages on all of them.
func TestEightNodes(t *testing.T) {
	m := made(t, line(8, 4, 0, 7))
	addr := malloc(t, m, 1, 600)
	for page := range 8 {
		tells(t, "SetPolicy", m.SetPolicy(1, bindTo(7-page)), api.OK)
		touch(t, m, 1, addr, page)
	}
	reads(t, "Objects", report.Objects(m), "64: 600 bytes on 7 6 5 4 3 2 1 0 - -")
	var want []string
	for node := range 8 {
		want = append(want, fmt.Sprintf("node %d: 3 free, 0 spans, 1 pages; hit 0, miss 1, foreign 0, local 0, other 1, interleave 0", node))
	}
	want[7] = "node 7: 3 free, 0 spans, 1 pages; hit 1, miss 0, foreign 7, local 1, other 0, interleave 0"
	reads(t, "Nodes", report.Nodes(m), want...)
}

// P24.1: a machine of one node.
func TestOneNode(t *testing.T) {
	m := made(t, line(1, 8, 0, 0))
	tells(t, "SetPolicy", m.SetPolicy(1, policy.Policy{Mode: policy.Interleave, Set: 1}), api.OK)
	malloc(t, m, 1, 20)
	touch(t, m, 0, malloc(t, m, 0, 65), 1)
	reads(t, "Nodes", report.Nodes(m), "node 0: 5 free, 2 spans, 1 pages; hit 2, miss 0, foreign 0, local 2, other 0, interleave 1")
	reads(t, "Objects", report.Objects(m), "64: 20 bytes on 0", "192: 65 bytes on - 0")
	reads(t, "Spans", report.Spans(m), "page 1: class 2 on node 0, 4 of 4 taken")
}

// P24.1: an object of a span has one page, wherever in its span it is, and one of no pages on frames has a "-" for each.
func TestObjects(t *testing.T) {
	m := made(t, line(2, 16, 0, 1))
	first, other := malloc(t, m, 0, 33), malloc(t, m, 0, 64)
	tells(t, "SetPolicy", m.SetPolicy(0, bindTo(1)), api.OK)
	small := malloc(t, m, 0, 1)
	large := malloc(t, m, 0, 1024)
	least := malloc(t, m, 1, 65)
	if first != 64 || other != 256 || small != 320 || large != 384 || least != 384+1024 {
		t.Fatal(first, other, small, large, least)
	}
	nowhere := strings.Repeat(" -", 16)
	reads(t, "Objects", report.Objects(m),
		"64: 33 bytes on 0", "256: 64 bytes on 0", "320: 1 bytes on 1", "384: 1024 bytes on"+nowhere, "1408: 65 bytes on - -")
	touch(t, m, 0, large, 0, 15)
	touch(t, m, 1, least, 1)
	tells(t, "Move", m.Move(384/64, 0, false), api.OK)
	reads(t, "Objects", report.Objects(m),
		"64: 33 bytes on 0", "256: 64 bytes on 0", "320: 1 bytes on 1", "384: 1024 bytes on 0"+nowhere[:28]+" 1", "1408: 65 bytes on - 1")
	// What was freed isn't live, even if it is in a cache.
	free(t, m, 0, other)
	free(t, m, 0, large)
	reads(t, "Objects", report.Objects(m), "64: 33 bytes on 0", "320: 1 bytes on 1", "1408: 65 bytes on - 1")
}

// P24.1: objects rise by address, whichever was given first; as numbers, not as texts.
func TestObjectsRise(t *testing.T) {
	m := made(t, line(1, 64, 0))
	a, b := malloc(t, m, 0, 100), malloc(t, m, 0, 700)
	malloc(t, m, 0, 200)
	free(t, m, 0, a)
	malloc(t, m, 0, 66)
	free(t, m, 0, b)
	malloc(t, m, 0, 90)
	reads(t, "Objects", report.Objects(m), "64: 66 bytes on - -", "192: 90 bytes on - -", "896: 200 bytes on - - - -")
}

// P24.1: of each class a span, with as many objects as it has, and those that are taken: live, in a cache or in a queue.
func TestSpans(t *testing.T) {
	m := made(t, line(2, 32, 0, 1))
	for i, n := range []int{8, 16, 32, 64} {
		tells(t, "SetPolicy", m.SetPolicy(0, bindTo(i%2)), api.OK)
		malloc(t, m, 0, n)
	}
	reads(t, "Spans", report.Spans(m),
		"page 1: class 0 on node 0, 4 of 8 taken", "page 2: class 1 on node 1, 4 of 4 taken",
		"page 3: class 2 on node 0, 4 of 4 taken", "page 5: class 3 on node 1, 4 of 4 taken")
	free(t, m, 0, 64)
	free(t, m, 1, 192)
	reads(t, "Spans", report.Spans(m),
		"page 1: class 0 on node 0, 4 of 8 taken", "page 2: class 1 on node 1, 4 of 4 taken",
		"page 3: class 2 on node 0, 4 of 4 taken", "page 5: class 3 on node 1, 4 of 4 taken")
	m.Flush(0)
	reads(t, "Spans", report.Spans(m),
		"page 1: class 0 on node 0, 0 of 8 taken", "page 2: class 1 on node 1, 1 of 4 taken",
		"page 3: class 2 on node 0, 1 of 4 taken", "page 5: class 3 on node 1, 1 of 4 taken")
	m.Drain(0)
	m.Release()
	reads(t, "Spans", report.Spans(m), "page 2: class 1 on node 1, 1 of 4 taken", "page 5: class 3 on node 1, 1 of 4 taken")
}

// P24.1: a span all of whose objects are taken; spans rise by page, as numbers.
func TestManySpans(t *testing.T) {
	m := made(t, line(1, 64, 0))
	var want []string
	for i := range 9 {
		malloc(t, m, 0, 50)
		for range 3 {
			malloc(t, m, 0, 64)
		}
		want = append(want, fmt.Sprintf("page %d: class 3 on node 0, 4 of 4 taken", 1+4*i))
	}
	for range 8 {
		malloc(t, m, 0, 8)
	}
	want = append(want, "page 37: class 0 on node 0, 8 of 8 taken")
	reads(t, "Spans", report.Spans(m), want...)
}

// stepper does steps on a machine.
type stepper struct {
	m    *alloc.Machine
	seed uint32
}

func (s *stepper) next(n int) int {
	s.seed = s.seed*1664525 + 1013904223
	return int(s.seed>>8) % n
}

// addr is that of a live object; 0 if there is none.
func (s *stepper) addr() int {
	live := s.m.Live()
	if len(live) == 0 {
		return 0
	}
	return live[s.next(len(live))]
}

func (s *stepper) step() {
	shape := s.m.Topo()
	cpu, addr := s.next(len(shape.CPUs)), s.addr()
	p := policy.Policy{Mode: s.next(4), Set: nodeset.Set(1 + s.next(1<<shape.Nodes-1)), Node: s.next(shape.Nodes)}
	switch s.next(8) {
	case 0, 1:
		s.m.Malloc(cpu, 1+s.next(64))
	case 2:
		s.m.Malloc(cpu, 65+s.next(960))
	case 3, 4:
		size, _ := s.m.Size(addr)
		at := s.next(size + 1)
		s.m.Write(cpu, addr, at, make([]byte, min(size-at, s.next(100))))
	case 5:
		s.m.Free(cpu, addr)
	case 6:
		s.m.SetPolicy(cpu, p)
		s.m.Flush(cpu)
		s.m.Drain(s.next(shape.Nodes))
		s.m.Release()
	case 7:
		for _, page := range s.m.Pages() {
			s.m.Move(page, s.next(shape.Nodes), s.next(2) == 0)
		}
	}
}

// nodesOf is what Nodes shall tell, by the words of the chapters: frames one by one, and events one by one.
func nodesOf(m *alloc.Machine) string {
	shape, text := m.Topo(), ""
	spans := map[int]bool{}
	for _, s := range m.Spans() {
		for i := range []int{1, 1, 2, 4}[s.Class] {
			spans[s.Page+i] = true
		}
	}
	for node := range shape.Nodes {
		var ofSpans, ofPages int
		for i := range shape.Frames {
			if page, stands := m.Memory().Page(node*shape.Frames + i); stands && spans[page] {
				ofSpans++
			} else if stands {
				ofPages++
			}
		}
		var c stats.Counts
		for _, x := range m.Log().Events() {
			count(&c, x, node)
		}
		text += fmt.Sprintf("node %d: %d free, %d spans, %d pages; ", node, shape.Frames-ofSpans-ofPages, ofSpans, ofPages)
		text += fmt.Sprintf("hit %d, miss %d, foreign %d, local %d, other %d, interleave %d\n", c.Hit, c.Miss, c.Foreign, c.Local, c.Other, c.Interleave)
	}
	return text
}

// count adds an event to the counts of a node.
func count(c *stats.Counts, x stats.Event, node int) {
	for _, one := range []struct {
		sum  *int
		when bool
	}{
		{&c.Hit, x.Node == node && x.Start == node}, {&c.Miss, x.Node == node && x.Start != node},
		{&c.Foreign, x.Node != node && x.Start == node}, {&c.Interleave, x.Node == node && x.Start == node && x.Interleave},
		{&c.Local, x.Node == node && x.Own == node}, {&c.Other, x.Node == node && x.Own != node},
	} {
		if one.when {
			*one.sum++
		}
	}
}

// objectsOf is what Objects shall tell, by Node of each page's first byte that is the object's.
func objectsOf(m *alloc.Machine) string {
	text := ""
	for _, addr := range m.Live() {
		size, _ := m.Size(addr)
		text += fmt.Sprintf("%d: %d bytes on", addr, size)
		for at := 0; at < size; at += 64 {
			if node, e := m.Node(addr, at); e == api.OK {
				text += fmt.Sprintf(" %d", node)
			} else {
				text += " -"
			}
		}
		text += "\n"
	}
	return text
}

func spansOf(m *alloc.Machine) string {
	text := ""
	for _, s := range m.Spans() {
		text += fmt.Sprintf("page %d: class %d on node %d, %d of %d taken\n", s.Page, s.Class, s.Node, s.Used, []int{8, 4, 4, 4}[s.Class])
	}
	return text
}

// view is all that can be seen of a machine.
func view(m *alloc.Machine) string {
	var b strings.Builder
	shape := m.Topo()
	fmt.Fprint(&b, shape, m.Live(), m.Spans(), m.Pages(), m.Log().Events(), m.Heap().Marks())
	for _, addr := range m.Live() {
		size, e := m.Size(addr)
		fmt.Fprint(&b, " ", addr, size, e)
	}
	for page := range api.MaxPages {
		if frame, stands := m.Memory().Frame(page); stands {
			content, _ := m.Memory().Read(page*64, 64)
			fmt.Fprint(&b, " ", page, frame, content)
		}
		if p, has := m.Book().Of(page); has {
			fmt.Fprint(&b, " ", page, p)
		}
	}
	for node := range shape.Nodes {
		free, _ := m.Heap().Free(node)
		counts, _ := m.Log().Node(node)
		fmt.Fprint(&b, " ", free, counts)
	}
	for order := range 11 {
		fmt.Fprint(&b, " ", m.Heap().All(order))
	}
	return b.String()
}

// P24.1: along many steps; reading changes nothing, neither what can be seen nor what comes then.
func TestManySteps(t *testing.T) {
	for i, shape := range []topo.Topo{line(1, 16, 0), line(2, 32, 0, 1), line(3, 16, 2, 1, 0, 0), line(8, 32, 0, 3, 5, 7)} {
		read, unread := &stepper{m: made(t, shape), seed: uint32(i + 1)}, &stepper{m: made(t, shape), seed: uint32(i + 1)}
		for n := range 1200 {
			read.step()
			unread.step()
			was := ""
			if n%100 == 99 {
				was = view(read.m)
			}
			for _, c := range []struct{ what, got, want string }{
				{"Nodes", report.Nodes(read.m), nodesOf(read.m)},
				{"Objects", report.Objects(read.m), objectsOf(read.m)},
				{"Spans", report.Spans(read.m), spansOf(read.m)},
			} {
				if c.got != c.want {
					t.Fatalf("%s: %q, not %q", c.what, c.got, c.want)
				}
			}
			if n%100 == 99 && view(read.m) != was {
				t.Fatalf("reading changed %s to %s", was, view(read.m))
			}
		}
		if a, b := view(read.m), view(unread.m); a != b {
			t.Errorf("one that was read is %s, one that wasn't is %s", a, b)
		}
	}
}

// P24.1, P6: the frames that a line tells are together all that the node has.
func TestLinesAddUp(t *testing.T) {
	s := &stepper{m: made(t, line(4, 64, 3, 2, 1, 0)), seed: 7}
	for range 500 {
		s.step()
		lines := slices.Collect(strings.Lines(report.Nodes(s.m)))
		if len(lines) != 4 {
			t.Fatalf("%q", lines)
		}
		for node, line := range lines {
			var n, free, spans, pages int
			if _, e := fmt.Sscanf(line, "node %d: %d free, %d spans, %d pages;", &n, &free, &spans, &pages); e != nil || n != node || free+spans+pages != 64 {
				t.Fatalf("%q: %v", line, e)
			}
		}
	}
}
