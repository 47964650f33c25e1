package alloc_test

import (
	"slices"
	"testing"

	"messuage/alloc"
	"messuage/api"
	"messuage/heap"
	"messuage/policy"
	"messuage/stats"
)

// P19.1: an object has the least class that has room for it, from its smallest to its greatest: where it stands, and on how many frames.
func TestClasses(t *testing.T) {
	for _, c := range []struct {
		n, class, pages int
	}{
		{1, 0, 1}, {2, 0, 1}, {7, 0, 1}, {8, 0, 1}, {9, 1, 1}, {15, 1, 1}, {16, 1, 1}, {17, 2, 2}, {31, 2, 2}, {32, 2, 2}, {33, 3, 4}, {63, 3, 4}, {64, 3, 4},
	} {
		m := plain(t, line(1, 16, 0))
		mallocs(t, m, 0, c.n, 64)
		tellsCount(t, "Size", m.Size, 64, c.n, api.OK)
		same(t, "Spans", m.Spans(), []alloc.Span{{Page: 1, Node: 0, Class: c.class, Used: 4}})
		hasFree(t, m, 16-c.pages)
		if m.Memory().Mapped() != c.pages || len(m.Pages()) != 0 {
			t.Errorf("Malloc(%d): %d pages stand on frames, of large objects %v", c.n, m.Memory().Mapped(), m.Pages())
		}
		for i := range c.pages {
			if frame, ok := m.Memory().Frame(1 + i); frame != i || !ok {
				t.Errorf("Frame(%d) = %d, %v", 1+i, frame, ok)
			}
		}
	}
}

// P19.1: a large object has so many pages side by side, none of them on a frame.
func TestLargeSizes(t *testing.T) {
	for _, c := range []struct{ n, pages int }{
		{65, 2}, {66, 2}, {127, 2}, {128, 2}, {129, 3}, {192, 3}, {193, 4}, {960, 15}, {961, 16}, {1023, 16}, {1024, 16},
	} {
		m := plain(t, line(1, 16, 0))
		mallocs(t, m, 0, c.n, 64, 64+64*c.pages, 64+128*c.pages)
		tellsCount(t, "Size", m.Size, 64, c.n, api.OK)
		hasFree(t, m, 16)
		if len(m.Spans()) != 0 || len(m.Pages()) != 0 || m.Memory().Mapped() != 0 || len(m.Log().Events()) != 0 {
			t.Errorf("Malloc(%d): %v, %v", c.n, m.Spans(), m.Pages())
		}
	}
}

// P19.1: which CPU and which size none is; of both the CPU is told.
func TestMallocRefuses(t *testing.T) {
	m := plain(t, line(2, 16, 0, 1))
	for _, cpu := range noCPUs(2) {
		for _, n := range append(slices.Clone(noSizes), 1, 8, 64, 65, 1024) {
			refusesMalloc(t, m, cpu, n, api.ErrCPU)
		}
	}
	for _, n := range noSizes {
		refusesMalloc(t, m, 0, n, api.ErrSize)
		refusesMalloc(t, m, 1, n, api.ErrSize)
	}
	if len(m.Live()) != 0 || len(m.Spans()) != 0 || !m.Heap().Whole() {
		t.Error("something is there")
	}
	mallocs(t, m, 0, 1024, 64)
}

// P19.1: a span gives four objects at once: the first is the object, the others come out of the cache, the last one first.
func TestBatches(t *testing.T) {
	m := plain(t, line(1, 64, 0))
	mallocs(t, m, 0, 8, 64, 88, 80, 72, 96, 120, 112, 104, 128, 152, 144, 136, 160)
	mallocs(t, m, 0, 16, 192, 240, 224, 208, 256)
	mallocs(t, m, 0, 32, 320, 416, 384, 352, 448)
	mallocs(t, m, 0, 64, 576, 768, 704, 640, 832)
	tellsCount(t, "Flush", m.Flush, 0, 3+3+3+3, api.OK)
	for i, c := range []int{0, 0, 1, 1, 2, 2, 3, 3} {
		used := []int{8, 5, 4, 1, 4, 1, 4, 1}[i]
		if s := m.Spans()[i]; s.Class != c || s.Used != used {
			t.Errorf("the span %d is %v", i, s)
		}
	}
}

// P19.1: of a span that has less than four objects free there are as many as there are, the least first.
func TestPartOfABatch(t *testing.T) {
	for free := 1; free <= 3; free++ {
		m := plain(t, line(1, 64, 0))
		mallocs(t, m, 0, 16, 64, 112, 96, 80)
		frees(t, m, 0, []int{80, 96, 112}[:free]...)
		tellsCount(t, "Flush", m.Flush, 0, free, api.OK)
		mallocs(t, m, 0, 16, 80)
		if m.Spans()[0].Used != 4 || len(m.Spans()) != 1 {
			t.Errorf("Spans() = %v", m.Spans())
		}
		mallocs(t, m, 0, 16, [][]int{nil, {96}, {112, 96}}[free-1]...)
		mallocs(t, m, 0, 16, 128)
	}
}

// P19.2: an object is noughts, whatever stood there: out of the cache, out of a span, out of a new one, on frames and pages of others.
func TestNoughts(t *testing.T) {
	m := plain(t, line(1, 4, 0))
	for _, n := range []int{8, 16, 32, 64, 256, 8, 200, 64, 32, 16, 5, 1, 63, 100} {
		for range 6 {
			a := malloc(t, m, 0, n)
			reads(t, m, 0, a, 0, string(make([]byte, n)))
			ones := slices.Repeat([]byte{255}, n)
			tells(t, "Write", m.Write(0, a, 0, ones), api.OK)
			frees(t, m, 0, a)
			b := malloc(t, m, 0, n)
			if room := 8; n <= 64 {
				for room < n {
					room *= 2
				}
				if got, _ := m.Memory().Read(b, room); !slices.Equal(got, make([]byte, room)) {
					t.Errorf("Malloc(0, %d): %v", n, got)
				}
			}
			frees(t, m, 0, b)
		}
		m.Flush(0)
		m.Release()
	}
}

// P19.2: all bytes of an object's class are noughts, also those beyond what is asked for: an object of more bytes stood there.
func TestNoughtsBehindTheEnd(t *testing.T) {
	m := plain(t, line(1, 64, 0))
	for _, room := range sizes {
		a := malloc(t, m, 0, room)
		tells(t, "Write", m.Write(0, a, 0, slices.Repeat([]byte{255}, room)), api.OK)
		frees(t, m, 0, a)
		mallocs(t, m, 0, room/2+1, a)
		if got, e := m.Memory().Read(a, room); !slices.Equal(got, make([]byte, room)) || e != api.OK {
			t.Errorf("at %d stands %v, %d", a, got, e)
		}
	}
}

// P19.2: an object that is made noughts doesn't change those beside it.
func TestNoughtsBesideOthers(t *testing.T) {
	for _, n := range []int{8, 16, 32, 64, 65} {
		m := plain(t, line(1, 64, 0))
		var kept, gone []int
		for i := range 12 {
			a := malloc(t, m, 0, n)
			tells(t, "Write", m.Write(0, a, 0, slices.Repeat([]byte{byte(i + 1)}, n)), api.OK)
			if i%2 == 0 {
				kept = append(kept, a)
			} else {
				gone = append(gone, a)
			}
		}
		frees(t, m, 0, gone...)
		for range gone {
			malloc(t, m, 0, n)
		}
		for i, a := range kept {
			reads(t, m, 0, a, 0, string(slices.Repeat([]byte{byte(2*i + 1)}, n)))
		}
	}
}

// P19.1, P19.3: a span that isn't full is taken ahead of a new one, also if it is far away.
func TestFarSpanAheadOfANewOne(t *testing.T) {
	m := plain(t, line(2, 16, 0, 1))
	mallocs(t, m, 1, 8, 64)
	mallocs(t, m, 0, 8, 96)
	same(t, "Spans", m.Spans(), []alloc.Span{{Page: 1, Node: 1, Class: 0, Used: 8}})
	same(t, "Events", m.Log().Events(), []stats.Event{{Node: 1, Start: 1, Own: 1}})
	tellsCount(t, "Flush", m.Flush, 0, 3, api.OK)
	mallocs(t, m, 0, 8, 104)
	mallocs(t, m, 0, 16, 128)
	same(t, "Spans", m.Spans()[1:], []alloc.Span{{Page: 2, Node: 0, Class: 1, Used: 4}})
}

// P19.1: spans of nodes that the CPU's policy doesn't permit aren't taken, the nearest one neither; a new one is.
func TestSpansOfPermittedNodes(t *testing.T) {
	for _, c := range []struct {
		p    policy.Policy
		node int // of the span
	}{
		{policy.Policy{}, 0}, {bindTo(0), 0}, {bindTo(1), 1}, {bindTo(2), 2}, {bindTo(1, 2), 1}, {bindTo(0, 2), 0},
		{spread(1), 0}, {spread(1, 2), 0}, {prefer(2), 0}, {prefer(1), 0},
	} {
		m := plain(t, line(4, 16, 0, 1, 2, 3))
		for node := 3; node >= 0; node-- {
			sets(t, m, node, bindTo(node))
			mallocs(t, m, node, 8, (4-node)*64)
		}
		tellsCount(t, "Flush", m.Flush, 0, 3, api.OK)
		sets(t, m, 0, c.p)
		mallocs(t, m, 0, 8, (4-c.node)*64+[]int{8, 32, 32, 32}[c.node])
		if n := len(m.Log().Events()); n != 4 {
			t.Errorf("%v: %d events", c.p, n)
		}
		for node := range 4 {
			if node != 0 && node != c.node {
				sets(t, m, 0, bindTo(node))
				m.Flush(0)
				mallocs(t, m, 0, 8, (4-node)*64+32)
			}
		}
	}
	m := plain(t, line(2, 16, 0, 1))
	mallocs(t, m, 1, 8, 64)
	sets(t, m, 0, bindTo(0))
	mallocs(t, m, 0, 8, 128)
	same(t, "Spans", m.Spans(), []alloc.Span{{Page: 1, Node: 1, Class: 0, Used: 4}, {Page: 2, Node: 0, Class: 0, Used: 4}})
}

// P19.1: of spans that aren't full: by the distance of their node from the CPU's, not by its number nor by the page;
// of the same distance by the number; of the same node by the page. Full ones, and those of other classes, aren't looked at.
func TestNearestSpan(t *testing.T) {
	m := plain(t, back(4, 64, 0, 1, 2, 3))
	for node := range 4 {
		sets(t, m, node, bindTo(node))
		malloc(t, m, node, 8)
		malloc(t, m, node, 16)
	}
	// From node 0 the nearest one is node 3, then 2, then 1.
	sets(t, m, 0, bindTo(1, 2, 3))
	for _, base := range []int{7 * 64, 5 * 64, 3 * 64} {
		m.Flush(0)
		mallocs(t, m, 0, 8, base+32, base+56, base+48, base+40)
	}
	m.Flush(0)
	same(t, "used", used(m), []int{1, 1, 8, 4, 8, 4, 8, 4})
	mallocs(t, m, 0, 8, 9*64)

	m = plain(t, ring(4, 64, 0, 1, 2, 3))
	for _, node := range []int{3, 1, 2} {
		sets(t, m, node, bindTo(node))
		for range 5 {
			malloc(t, m, node, 8)
		}
		m.Flush(node)
		for range 5 {
			malloc(t, m, node, 8)
		}
	}
	// From node 0 the nodes 1 and 3 are as near.
	same(t, "used", used(m), []int{8, 4, 8, 4, 8, 4})
	mallocs(t, m, 0, 8, 4*64+32, 4*64+56, 4*64+48, 4*64+40, 2*64+32)
	m.Flush(0)
	frees(t, m, 1, 3*64)
	m.Flush(1)
	mallocs(t, m, 0, 8, 3*64)
}

// P19.1: the nearest span is the nearest one to the node of the CPU that asks, of each CPU to its own.
func TestNearestSpanOfEachCPU(t *testing.T) {
	m := plain(t, line(8, 16, 0, 1, 2, 3, 4, 5, 6, 7))
	for _, node := range []int{0, 4, 7} {
		sets(t, m, node, bindTo(node))
		malloc(t, m, node, 8)
		m.Flush(node)
	}
	for cpu, at := range []int{0, 0, 0, 1, 1, 1, 2, 2} {
		sets(t, m, cpu, policy.Policy{})
		a := malloc(t, m, cpu, 8)
		if a/64 != at+1 {
			t.Errorf("CPU %d: %d, of the span %d", cpu, a, a/64)
		}
		frees(t, m, m.Spans()[at].Node, a)
		m.Flush(cpu)
		m.Flush(m.Spans()[at].Node)
	}
	if n := len(m.Log().Events()); n != 3 {
		t.Errorf("%d events", n)
	}
}

// used is how many objects of each span are taken.
func used(m *alloc.Machine) []int {
	var list []int
	for _, s := range m.Spans() {
		list = append(list, s.Used)
	}
	return list
}

// P19.1, P19.3: from which nodes frames of new spans come, by each policy: the nearest permitted one to the start that may; and the events.
func TestNewSpansByPolicy(t *testing.T) {
	for _, c := range []struct {
		p     policy.Policy
		own   int
		full  []int // nodes that have no frame
		event stats.Event
	}{
		{policy.Policy{}, 0, nil, stats.Event{Node: 0, Start: 0, Own: 0}},
		{policy.Policy{}, 3, nil, stats.Event{Node: 3, Start: 3, Own: 3}},
		{policy.Policy{}, 1, []int{1}, stats.Event{Node: 0, Start: 1, Own: 1}},
		{policy.Policy{}, 1, []int{0, 1}, stats.Event{Node: 2, Start: 1, Own: 1}},
		{policy.Policy{}, 0, []int{0, 1, 2}, stats.Event{Node: 3, Start: 0, Own: 0}},
		{bindTo(2), 0, nil, stats.Event{Node: 2, Start: 0, Own: 0}},
		{bindTo(2, 3), 0, []int{2}, stats.Event{Node: 3, Start: 0, Own: 0}},
		{bindTo(0, 3), 3, nil, stats.Event{Node: 3, Start: 3, Own: 3}},
		{bindTo(0, 3), 1, []int{0}, stats.Event{Node: 3, Start: 1, Own: 1}},
		{prefer(2), 0, nil, stats.Event{Node: 2, Start: 2, Own: 0}},
		{prefer(2), 2, nil, stats.Event{Node: 2, Start: 2, Own: 2}},
		{prefer(3), 0, []int{3}, stats.Event{Node: 2, Start: 3, Own: 0}},
		{prefer(3), 0, []int{1, 2, 3}, stats.Event{Node: 0, Start: 3, Own: 0}},
		{spread(0, 2), 0, nil, stats.Event{Node: 2, Start: 2, Own: 0, Interleave: true}},
		{spread(0), 3, nil, stats.Event{Node: 0, Start: 0, Own: 3, Interleave: true}},
		{spread(1, 3), 3, []int{1}, stats.Event{Node: 0, Start: 1, Own: 3, Interleave: true}},
		{spread(3), 0, []int{3, 2, 1}, stats.Event{Node: 0, Start: 3, Own: 0, Interleave: true}},
	} {
		for _, n := range []int{8, 16, 32, 64} {
			m := plain(t, line(4, 16, 0, 1, 2, 3))
			sets(t, m, c.own, c.p)
			for _, node := range c.full {
				fills(t, m, node, 0)
			}
			mallocs(t, m, c.own, n, 64)
			same(t, "Events", m.Log().Events(), []stats.Event{c.event})
			tellsCount(t, "Node", func(at int) (int, api.Errno) { return m.Node(64, at) }, n-1, c.event.Node, api.OK)
			if s := m.Spans(); len(s) != 1 || s[0].Node != c.event.Node {
				t.Errorf("%v: Spans() = %v", c, s)
			}
		}
	}
}

// P19.1: the counts of the log are those of the events.
func TestCounts(t *testing.T) {
	m := plain(t, line(2, 16, 0, 1))
	malloc(t, m, 0, 8)
	sets(t, m, 0, prefer(1))
	malloc(t, m, 0, 16)
	sets(t, m, 1, spread(0, 1))
	malloc(t, m, 1, 32)
	fills(t, m, 0, 0)
	malloc(t, m, 1, 64)
	for node, want := range []stats.Counts{
		{Hit: 1, Local: 1, Foreign: 1},
		{Hit: 2, Miss: 1, Local: 2, Other: 1, Interleave: 1},
	} {
		if got, e := m.Log().Node(node); got != want || e != api.OK {
			t.Errorf("Node(%d) = %v, not %v", node, got, want)
		}
	}
}

// P19.1, P10.2: an Interleave goes round its nodes, from behind the cursor on, which each CPU has for itself, and keeps over other policies.
func TestCursor(t *testing.T) {
	m := plain(t, line(3, 64, 0, 1))
	newSpan := func(cpu, want int) {
		t.Helper()
		// Of the class 3 each span is full when four objects were asked for.
		for range 4 {
			malloc(t, m, cpu, 64)
		}
		if s := m.Spans(); s[len(s)-1].Node != want {
			t.Errorf("the new span is %v, not on %d", s[len(s)-1], want)
		}
	}
	sets(t, m, 0, spread(0, 1, 2))
	sets(t, m, 1, spread(0, 2))
	newSpan(0, 1)
	newSpan(1, 2)
	newSpan(1, 0)
	newSpan(0, 2)
	newSpan(0, 0)
	newSpan(0, 1)
	sets(t, m, 0, bindTo(0))
	newSpan(0, 0)
	sets(t, m, 0, prefer(2))
	newSpan(0, 2)
	sets(t, m, 0, policy.Policy{})
	newSpan(0, 0)
	sets(t, m, 0, spread(0, 1, 2))
	newSpan(0, 2)
	sets(t, m, 0, spread(1))
	newSpan(0, 1)
	newSpan(0, 1)
	sets(t, m, 0, spread(0, 1))
	newSpan(0, 0)
	newSpan(1, 2)
}

// P19.1: the cursor goes on also where no node is found: with each of both searches of a Malloc that has no memory, and of a page that is touched.
func TestCursorWithoutANode(t *testing.T) {
	for _, n := range []int{8, 100} {
		m := plain(t, line(4, 4, 0))
		sets(t, m, 0, spread(0, 1, 2, 3))
		large := malloc(t, m, 0, 65)
		var frames []int
		for node := range 4 {
			f, _ := m.Heap().Take(node, 2)
			frames = append(frames, f)
		}
		try := func() api.Errno {
			if n > 64 {
				return m.Write(0, large, 0, []byte("x"))
			}
			_, e := m.Malloc(0, n)
			return e
		}
		tells(t, "without memory", try(), api.ErrNoMem)
		for _, f := range frames {
			tells(t, "Give", m.Heap().Give(f, 2), api.OK)
		}
		// From 0 on it went to 1 and to 2.
		tells(t, "with memory", try(), api.OK)
		same(t, "Events", m.Log().Events(), []stats.Event{{Node: 3, Start: 3, Own: 0, Interleave: true}})
	}
}

// P19.1: where an object comes out of the cache or of a span that is there, no frames are acquired: neither an event nor the cursor.
func TestNoEventWithoutFrames(t *testing.T) {
	m := plain(t, line(2, 16, 0, 1))
	sets(t, m, 0, spread(0, 1))
	for range 8 {
		malloc(t, m, 0, 8)
	}
	malloc(t, m, 0, 1000)
	same(t, "Events", m.Log().Events(), []stats.Event{{Node: 1, Start: 1, Own: 0, Interleave: true}})
	malloc(t, m, 0, 8)
	same(t, "Events", m.Log().Events()[1:], []stats.Event{{Node: 0, Start: 0, Own: 0, Interleave: true}})
}

// P19.1: each CPU has a cache of its own, of each class.
func TestCachesAreApart(t *testing.T) {
	m := plain(t, line(1, 16, 0, 0))
	mallocs(t, m, 0, 8, 64)
	mallocs(t, m, 1, 8, 96)
	mallocs(t, m, 0, 16, 128)
	mallocs(t, m, 0, 8, 88)
	mallocs(t, m, 1, 8, 120)
	mallocs(t, m, 0, 16, 176)
	tellsCount(t, "Flush", m.Flush, 1, 2, api.OK)
	tellsCount(t, "Flush", m.Flush, 0, 4, api.OK)
}

// P9.2, P19.4: a node with just its Min frames left gives none, of each order; with one run more it does.
func TestMin(t *testing.T) {
	for c, n := range []int{8, 16, 32, 64} {
		run := 1 << orders[c]
		for least := range 8 {
			m := made(t, line(1, 16, 0), heap.Marks{Min: least, Low: 16, High: 16})
			first, _ := m.Heap().Take(0, 2)
			fills(t, m, 0, least+run-1)
			refusesMalloc(t, m, 0, n, api.ErrNoMem)
			hasFree(t, m, least+run-1)
			tells(t, "Give", m.Heap().Give(first, 2), api.OK)
			mallocs(t, m, 0, n, 64)
			hasFree(t, m, least+3)
		}
	}
}

// P19.4: frames that aren't side by side are none for a span of the greater classes.
func TestFramesApart(t *testing.T) {
	m := plain(t, line(1, 16, 0))
	var frames []int
	for range 16 {
		f, _ := m.Heap().Take(0, 0)
		frames = append(frames, f)
	}
	for i := 0; i < 16; i += 2 {
		m.Heap().Give(frames[i], 0)
	}
	refusesMalloc(t, m, 0, 64, api.ErrNoMem)
	refusesMalloc(t, m, 0, 17, api.ErrNoMem)
	mallocs(t, m, 0, 16, 64)
	m.Heap().Give(frames[3], 0)
	refusesMalloc(t, m, 0, 64, api.ErrNoMem)
	mallocs(t, m, 0, 17, 128)
}

// P19.3: whether a node may hangs on the run that is asked for: one with frames, but none side by side, is gone by.
func TestNodesByOrder(t *testing.T) {
	m := plain(t, line(3, 4, 0))
	fills(t, m, 0, 1)
	fills(t, m, 1, 2)
	mallocs(t, m, 0, 64, 64)
	mallocs(t, m, 0, 32, 5*64)
	mallocs(t, m, 0, 16, 7*64)
	same(t, "Events", m.Log().Events(), []stats.Event{{Node: 2, Start: 0, Own: 0}, {Node: 1, Start: 0, Own: 0}, {Node: 0, Start: 0, Own: 0}})
	refusesMalloc(t, m, 0, 8, api.ErrNoMem)
}

// P19.4: where no node has a frame there is no memory, of whichever policy; with a Bind no other node's frames are any.
func TestAllNodesFull(t *testing.T) {
	m := plain(t, line(3, 16, 0, 1, 2))
	sets(t, m, 1, bindTo(1))
	sets(t, m, 2, bindTo(0, 1))
	fills(t, m, 1, 0)
	refusesMalloc(t, m, 1, 8, api.ErrNoMem)
	mallocs(t, m, 2, 8, 64)
	fills(t, m, 0, 0)
	refusesMalloc(t, m, 2, 16, api.ErrNoMem)
	mallocs(t, m, 0, 16, 128)
	fills(t, m, 2, 0)
	for _, p := range []policy.Policy{{}, bindTo(0, 1, 2), bindTo(2), spread(0, 1, 2), prefer(1)} {
		sets(t, m, 0, p)
		refusesMalloc(t, m, 0, 64, api.ErrNoMem)
		refusesMalloc(t, m, 0, 32, api.ErrNoMem)
	}
	mallocs(t, m, 0, 1024, 192)
	same(t, "Live", m.Live(), []int{64, 128, 192})
}

// P19.4: without frames the CPU's cache is flushed, spans without a taken object are released, and then there are some.
func TestFlushAndReleaseForFrames(t *testing.T) {
	m := plain(t, line(1, 4, 0, 0))
	mallocs(t, m, 0, 64, 64)
	frees(t, m, 0, 64)
	mallocs(t, m, 0, 8, 64)
	same(t, "Spans", m.Spans(), []alloc.Span{{Page: 1, Node: 0, Class: 0, Used: 4}})
	hasFree(t, m, 3)
	if n := len(m.Log().Events()); n != 2 {
		t.Errorf("%d events", n)
	}
	tellsCount(t, "Flush", m.Flush, 0, 3, api.OK)
}

// P19.4: what other CPUs' caches, or queues, hold isn't given back for it; nor does a span go that has a live object.
func TestOtherCachesAreNotFlushed(t *testing.T) {
	m := plain(t, line(2, 4, 0, 0, 1))
	sets(t, m, 0, bindTo(0))
	sets(t, m, 1, bindTo(0))
	mallocs(t, m, 1, 64, 64)
	frees(t, m, 1, 64)
	refusesMalloc(t, m, 0, 8, api.ErrNoMem)
	tellsCount(t, "Flush", m.Flush, 1, 4, api.OK)
	mallocs(t, m, 0, 8, 64)
	frees(t, m, 0, 64)
	m.Flush(0)
	m.Release()
	mallocs(t, m, 0, 64, 64)
	frees(t, m, 2, 64)
	refusesMalloc(t, m, 0, 8, api.ErrNoMem)
	tellsCount(t, "Drain", m.Drain, 0, 1, api.OK)
	mallocs(t, m, 0, 8, 64)
	frees(t, m, 0, 64)
	m.Flush(0)
	m.Release()
	mallocs(t, m, 0, 64, 64)
	refusesMalloc(t, m, 0, 8, api.ErrNoMem)
	same(t, "Spans", m.Spans(), []alloc.Span{{Page: 1, Node: 0, Class: 3, Used: 1}})
	tellsCount(t, "Flush", m.Flush, 0, 0, api.OK)
}

// P19.1: all that Malloc changes where there is no memory is that the cache is flushed and empty spans are released: no object.
func TestNoMemoryChangesNoObject(t *testing.T) {
	m := made(t, line(2, 16, 0, 1), heap.Marks{Min: 2, Low: 2, High: 2})
	sets(t, m, 0, bindTo(0))
	var live []int
	for i := range 9 {
		a := malloc(t, m, 0, 16)
		tells(t, "Write", m.Write(0, a, 0, []byte{byte(i + 1)}), api.OK)
		live = append(live, a)
	}
	a := malloc(t, m, 0, 1024)
	tells(t, "Write", m.Write(0, a, 64, []byte{77}), api.OK)
	fills(t, m, 0, 2)
	for _, n := range []int{8, 32, 64, 8} {
		refusesMalloc(t, m, 0, n, api.ErrNoMem)
	}
	for i, b := range live {
		reads(t, m, 0, b, 0, string([]byte{byte(i + 1), 0}))
	}
	reads(t, m, 0, a, 64, "M\x00")
	same(t, "Live", m.Live(), slices.Sorted(slices.Values(append(live, a))))
	same(t, "used", used(m), []int{4, 4, 1})
	tellsCount(t, "Flush", m.Flush, 0, 0, api.OK)
}

// P19.1: pages run out for large objects: to the last page; they come again when some are freed.
func TestNoPages(t *testing.T) {
	m := plain(t, line(1, 4, 0))
	for i := range 255 {
		mallocs(t, m, 0, 1024, 64+i*1024)
	}
	refusesMalloc(t, m, 0, 1024, api.ErrNoMem)
	refusesMalloc(t, m, 0, 961, api.ErrNoMem)
	mallocs(t, m, 0, 960, 64+255*1024)
	tells(t, "Write", m.Write(0, 64+255*1024, 959, []byte("x")), api.OK)
	reads(t, m, 0, 64+255*1024, 958, "\x00x")
	same(t, "Pages", m.Pages(), []int{4095})
	for _, n := range []int{65, 128, 1024} {
		refusesMalloc(t, m, 0, n, api.ErrNoMem)
	}
	for _, n := range []int{8, 16, 32, 64} {
		refusesMalloc(t, m, 0, n, api.ErrNoMem)
	}
	if n := len(m.Log().Events()); n != 1 || len(m.Live()) != 256 {
		t.Errorf("%d events, %d objects", n, len(m.Live()))
	}
	hasFree(t, m, 3)
	frees(t, m, 0, 64+100*1024)
	mallocs(t, m, 0, 8, 64+100*1024)
	mallocs(t, m, 0, 960, 128+100*1024)
	refusesMalloc(t, m, 0, 65, api.ErrNoMem)
}

// P19.4: without pages for a new span the CPU's Flush and a Release bring some; for a large object they aren't asked.
func TestFlushAndReleaseForPages(t *testing.T) {
	m := plain(t, line(1, 1024, 0))
	mallocs(t, m, 0, 64, 64)
	for range 255 {
		malloc(t, m, 0, 1024)
	}
	mallocs(t, m, 0, 11*64, 4085*64)
	frees(t, m, 0, 64)
	refusesMalloc(t, m, 0, 65, api.ErrNoMem)
	same(t, "Spans", m.Spans(), []alloc.Span{{Page: 1, Node: 0, Class: 3, Used: 4}})
	mallocs(t, m, 0, 8, 64)
	same(t, "Spans", m.Spans(), []alloc.Span{{Page: 1, Node: 0, Class: 0, Used: 4}})
	mallocs(t, m, 0, 65, 128)
}

// P19.1: the first and the last node and CPU of a machine that has as many as there may be.
func TestFirstAndLast(t *testing.T) {
	m := plain(t, line(8, 1024, 7, 6, 5, 4, 3, 2, 1, 0, 0, 1, 2, 3, 4, 5, 6, 7))
	for cpu, node := range []int{7, 6, 5, 4, 3, 2, 1, 0, 0, 1, 2, 3, 4, 5, 6, 7} {
		sets(t, m, cpu, bindTo(node))
		a := malloc(t, m, cpu, 64)
		b := malloc(t, m, cpu, 1024)
		tells(t, "Write", m.Write(cpu, b, 1023, []byte("z")), api.OK)
		tellsCount(t, "Node", func(at int) (int, api.Errno) { return m.Node(a, at) }, 63, node, api.OK)
		tellsCount(t, "Node", func(at int) (int, api.Errno) { return m.Node(b, at) }, 1023, node, api.OK)
		tellsCount(t, "Free", m.Heap().Free, node, 1024-4-1, api.OK)
		tellsCount(t, "Flush", m.Flush, cpu, 3, api.OK)
		frees(t, m, 15-cpu, a, b)
		tellsCount(t, "Flush", m.Flush, 15-cpu, 1, api.OK)
		tellsCount(t, "Drain", m.Drain, node, 0, api.OK)
		if n := m.Release(); n != 1 || !m.Heap().Whole() {
			t.Errorf("Release() = %d", n)
		}
	}
}

// P19.1: spans stand in Spans by their pages, also if a later one has a lower page.
func TestSpansRise(t *testing.T) {
	m := plain(t, line(2, 64, 0, 1))
	mallocs(t, m, 0, 128, 64)
	mallocs(t, m, 0, 32, 192)
	mallocs(t, m, 1, 16, 320)
	frees(t, m, 0, 64)
	mallocs(t, m, 0, 8, 64)
	mallocs(t, m, 1, 64, 384)
	same(t, "Spans", m.Spans(), []alloc.Span{
		{Page: 1, Node: 0, Class: 0, Used: 4}, {Page: 3, Node: 0, Class: 2, Used: 4},
		{Page: 5, Node: 1, Class: 1, Used: 4}, {Page: 6, Node: 1, Class: 3, Used: 4},
	})
}

// P19.2: objects till there is no memory, of all sizes and CPUs: none shares a byte with another one, and each has what was written.
func TestTillFull(t *testing.T) {
	m := made(t, ring(4, 64, 0, 1, 2, 3), heap.Marks{Min: 2, Low: 2, High: 2})
	var live []int
	for i := 0; ; i++ {
		a, e := m.Malloc(i%4, 1+i*7%64)
		if e == api.ErrNoMem {
			break
		}
		tells(t, "Malloc", e, api.OK, i%4, 1+i*7%64)
		tells(t, "Write", m.Write((i+1)%4, a, 0, []byte{byte(i + 1)}), api.OK)
		tells(t, "Write", m.Write((i+2)%4, a, i*7%64, []byte{byte(i + 1)}), api.OK)
		live = append(live, a)
	}
	sound(t, m)
	if len(live) < 100 {
		t.Errorf("there are but %d", len(live))
	}
	for i, a := range live {
		reads(t, m, i%4, a, 0, string([]byte{byte(i + 1)}))
		reads(t, m, i%4, a, i*7%64, string([]byte{byte(i + 1)}))
	}
	for i, a := range live {
		frees(t, m, (i+i/3)%4, a)
	}
	empty(t, m)
}
