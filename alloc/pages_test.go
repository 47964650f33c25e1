package alloc_test

import (
	"math"
	"slices"
	"testing"

	"messuage/alloc"
	"messuage/api"
	"messuage/heap"
	"messuage/policy"
	"messuage/stats"
)

func reads(t *testing.T, m *alloc.Machine, cpu, addr, at int, want string) {
	t.Helper()
	if b, e := m.Read(cpu, addr, at, len(want)); string(b) != want || e != api.OK {
		t.Errorf("Read(%d, %d, %d, %d) = %q, %d, not %q", cpu, addr, at, len(want), b, e, want)
	}
}

func refusesRead(t *testing.T, m *alloc.Machine, cpu, addr, at, n int, want api.Errno) {
	t.Helper()
	if b, e := m.Read(cpu, addr, at, n); len(b) != 0 || e != want {
		t.Errorf("Read(%d, %d, %d, %d) = %q, %d, not %d", cpu, addr, at, n, b, e, want)
	}
}

func writes(t *testing.T, m *alloc.Machine, cpu, addr, at int, text string) {
	t.Helper()
	tells(t, "Write", m.Write(cpu, addr, at, []byte(text)), api.OK, cpu, addr, at)
}

func refusesWrite(t *testing.T, m *alloc.Machine, cpu, addr, at int, text string, want api.Errno) {
	t.Helper()
	tells(t, "Write", m.Write(cpu, addr, at, []byte(text)), want, cpu, addr, at)
}

func stands(t *testing.T, m *alloc.Machine, addr, at, node int) {
	t.Helper()
	tellsCount(t, "Node", func(at int) (int, api.Errno) { return m.Node(addr, at) }, at, node, api.OK)
}

func standsOnNone(t *testing.T, m *alloc.Machine, addr, at int) {
	t.Helper()
	tellsCount(t, "Node", func(at int) (int, api.Errno) { return m.Node(addr, at) }, at, 0, api.ErrMap)
}

// P19.1, P19.2: the first and the last byte of an object of each size, and those beside it.
func TestBounds(t *testing.T) {
	for _, n := range []int{1, 2, 7, 8, 9, 16, 17, 32, 33, 63, 64, 65, 128, 129, 1023, 1024} {
		m := plain(t, line(1, 64, 0))
		before, a, behind := malloc(t, m, 0, n), malloc(t, m, 0, n), malloc(t, m, 0, n)
		whole := string(make([]byte, n))
		writes(t, m, 0, a, 0, "f")
		writes(t, m, 0, a, n-1, "l")
		first, _ := m.Read(0, a, 0, 1)
		if n > 1 && string(first) != "f" || n == 1 && string(first) != "l" {
			t.Errorf("size %d: the first byte is %q", n, first)
		}
		reads(t, m, 0, a, n-1, "l")
		reads(t, m, 0, before, 0, whole)
		reads(t, m, 0, behind, 0, whole)
		for _, b := range []struct {
			at, n int
		}{{n, 1}, {n - 1, 2}, {0, n + 1}, {1, n}, {-1, 1}, {-1, 0}, {0, -1}, {n + 1, 0}, {n, -1}, {n + 1, -1}, {math.MaxInt, 1}, {1, math.MaxInt}, {math.MaxInt, math.MaxInt}, {math.MinInt, 1}, {math.MinInt, math.MinInt}, {0, math.MinInt}, {math.MinInt, math.MaxInt}, {math.MaxInt, math.MinInt}} {
			refusesRead(t, m, 0, a, b.at, b.n, api.ErrBound)
			if b.n >= 0 && b.n <= n+1 {
				refusesWrite(t, m, 0, a, b.at, string(make([]byte, b.n)), api.ErrBound)
			}
		}
		reads(t, m, 0, a, n-1, "l")
		reads(t, m, 0, a, n, "")
		reads(t, m, 0, a, 0, "")
		writes(t, m, 0, a, n, "")
		text := ""
		for i := range n {
			text += string(rune('a' + i%26))
		}
		writes(t, m, 0, a, 0, text)
		reads(t, m, 0, a, 0, text)
		reads(t, m, 0, before, 0, whole)
		reads(t, m, 0, behind, 0, whole)
	}
}

// P19.1: the size that was asked for is the bound, not the class's and not the pages'.
func TestBoundIsWhatWasAskedFor(t *testing.T) {
	m := plain(t, line(1, 64, 0))
	for _, n := range []int{1, 3, 9, 20, 40, 70, 1000} {
		a := malloc(t, m, 0, n)
		refusesRead(t, m, 0, a, n, 1, api.ErrBound)
		refusesWrite(t, m, 0, a, n-1, "ab", api.ErrBound)
		frees(t, m, 0, a)
		// The next one has the same place, and a bound of its own.
		b := malloc(t, m, 0, n+1)
		if n != 70 && n != 1000 && a != b {
			t.Errorf("Malloc(0, %d) = %d, not %d", n+1, b, a)
		}
		reads(t, m, 0, b, n, "\x00")
		refusesRead(t, m, 0, b, n+1, 1, api.ErrBound)
		frees(t, m, 0, b)
	}
}

// P19.1: the errors of Read and Write, in their order.
func TestReadAndWriteRefuse(t *testing.T) {
	m := plain(t, line(2, 16, 0, 1))
	a := malloc(t, m, 0, 8)
	large := malloc(t, m, 0, 65)
	for _, cpu := range noCPUs(2) {
		refusesRead(t, m, cpu, a, 0, 1, api.ErrCPU)
		refusesRead(t, m, cpu, 3, -1, 1, api.ErrCPU)
		refusesWrite(t, m, cpu, large, 0, "a", api.ErrCPU)
		refusesWrite(t, m, cpu, 3, -1, "a", api.ErrCPU)
	}
	for _, addr := range append(slices.Clone(odd), a+1, a+8, a-1, large+1, large+64, large+65, large-1) {
		if addr == a || addr == large {
			continue
		}
		refusesRead(t, m, 0, addr, 0, 1, api.ErrBad)
		refusesRead(t, m, 0, addr, -1, 0, api.ErrBad)
		refusesRead(t, m, 0, addr, 0, 0, api.ErrBad)
		refusesWrite(t, m, 1, addr, 0, "a", api.ErrBad)
		refusesWrite(t, m, 1, addr, -1, "", api.ErrBad)
	}
	frees(t, m, 0, a, large)
	for _, addr := range []int{a, large} {
		refusesRead(t, m, 0, addr, 0, 1, api.ErrBad)
		refusesWrite(t, m, 0, addr, 0, "a", api.ErrBad)
	}
	if len(m.Pages()) != 0 {
		t.Errorf("Pages() = %v", m.Pages())
	}
}

// P19.2: what is read is what was written last, by whichever CPU, over pages too; noughts where nothing was.
func TestReadIsWhatWasWritten(t *testing.T) {
	m := plain(t, line(2, 16, 0, 1))
	a := malloc(t, m, 0, 300)
	writes(t, m, 0, a, 60, "over two")
	writes(t, m, 1, a, 64, "AND")
	reads(t, m, 0, a, 58, "\x00\x00overANDo\x00")
	text := string(slices.Repeat([]byte("0123456789"), 30))
	writes(t, m, 1, a, 0, text)
	reads(t, m, 0, a, 0, text)
	reads(t, m, 1, a, 127, text[127:194])
	s := malloc(t, m, 0, 20)
	writes(t, m, 1, s, 3, "hey")
	writes(t, m, 0, s, 4, "i")
	reads(t, m, 1, s, 0, "\x00\x00\x00hiy\x00")
}

// P19.7: what Write is told isn't kept or changed, its spare room neither; what Read answers is new memory.
func TestBytesAreNotShared(t *testing.T) {
	m := plain(t, line(1, 16, 0))
	for _, n := range []int{8, 100} {
		a := malloc(t, m, 0, n)
		b := make([]byte, 4, 9)
		copy(b, "abcd")
		copy(b[4:9], "spare")
		tells(t, "Write", m.Write(0, a, 2, b), api.OK)
		if string(b) != "abcd" || string(b[4:9]) != "spare" {
			t.Errorf("what was told is now %q", b[:9])
		}
		copy(b, "XXXX")
		reads(t, m, 0, a, 2, "abcd")
		one, _ := m.Read(0, a, 2, 4)
		other, _ := m.Read(0, a, 2, 4)
		one = one[:cap(one)]
		for i := range one {
			one[i] = 'Y'
		}
		reads(t, m, 0, a, 2, "abcd")
		writes(t, m, 0, a, 2, "efgh")
		if string(other) != "abcd" {
			t.Errorf("the answer is now %q", other)
		}
	}
}

// P19.1: only pages of bytes that are read or written get a frame, each but once; of no byte none does.
func TestTouch(t *testing.T) {
	for _, c := range []struct {
		at, n int
		pages []int
	}{
		{0, 0, nil}, {64, 0, nil}, {300, 0, nil}, {0, 1, []int{1}}, {63, 1, []int{1}}, {64, 1, []int{2}}, {63, 2, []int{1, 2}},
		{0, 64, []int{1}}, {0, 65, []int{1, 2}}, {1, 64, []int{1, 2}}, {128, 64, []int{3}}, {100, 100, []int{2, 3, 4}},
		{299, 1, []int{5}}, {256, 44, []int{5}}, {255, 45, []int{4, 5}}, {0, 300, []int{1, 2, 3, 4, 5}},
	} {
		for _, write := range []bool{false, true} {
			m := plain(t, line(1, 16, 0))
			a := malloc(t, m, 0, 300)
			for range 2 {
				if write {
					writes(t, m, 0, a, c.at, string(make([]byte, c.n)))
				} else {
					reads(t, m, 0, a, c.at, string(make([]byte, c.n)))
				}
				same(t, "Pages", m.Pages(), c.pages)
				hasFree(t, m, 16-len(c.pages))
				if n := len(m.Log().Events()); n != len(c.pages) {
					t.Errorf("%d events, of %v", n, c.pages)
				}
			}
		}
	}
}

// P19.1: pages get their frames in order, the first one first.
func TestTouchInOrder(t *testing.T) {
	m := plain(t, line(3, 16, 0))
	sets(t, m, 0, spread(0, 1, 2))
	a := malloc(t, m, 0, 320)
	writes(t, m, 0, a, 64*2, "x")
	reads(t, m, 0, a, 0, string(make([]byte, 128))+"x"+string(make([]byte, 191)))
	for i, node := range []int{2, 0, 1, 1, 2} {
		stands(t, m, a, 64*i, node)
	}
	for i, frame := range []int{32, 0, 16, 17, 33} {
		if got, ok := m.Memory().Frame(a/64 + i); got != frame || !ok {
			t.Errorf("Frame(%d) = %d, %v, not %d", a/64+i, got, ok, frame)
		}
	}
}

// P19.3: by which policy a page is touched: its own, or that of the CPU that touches it, if it has none; the cursor is that CPU's.
func TestTouchByPolicy(t *testing.T) {
	m := plain(t, line(4, 16, 0, 1, 3))
	a := malloc(t, m, 0, 1024)
	sets(t, m, 1, bindTo(2))
	sets(t, m, 2, prefer(0))
	writes(t, m, 0, a, 0, "x")
	writes(t, m, 1, a, 64, "x")
	writes(t, m, 2, a, 128, "x")
	for i, node := range []int{0, 2, 0} {
		stands(t, m, a, 64*i, node)
	}
	binds(t, m, a, spread(1, 2, 3))
	for i, node := range []int{1, 2, 3, 1} {
		writes(t, m, 2, a, 192+64*i, "x")
		stands(t, m, a, 192+64*i, node)
	}
	writes(t, m, 1, a, 192+256, "x")
	stands(t, m, a, 192+256, 1)
	// The cursor is the same one for the CPU's own policy.
	sets(t, m, 2, spread(0, 1, 2, 3))
	b := malloc(t, m, 2, 100)
	writes(t, m, 2, b, 0, "x")
	stands(t, m, b, 0, 2)
	// A Default that a page has is a policy, so that the CPU's isn't asked.
	binds(t, m, a, policy.Policy{})
	writes(t, m, 1, a, 640, "x")
	stands(t, m, a, 640, 1)
	events := m.Log().Events()
	same(t, "Events", events, []stats.Event{
		{Node: 0, Start: 0, Own: 0}, {Node: 2, Start: 1, Own: 1}, {Node: 0, Start: 0, Own: 3},
		{Node: 1, Start: 1, Own: 3, Interleave: true}, {Node: 2, Start: 2, Own: 3, Interleave: true},
		{Node: 3, Start: 3, Own: 3, Interleave: true}, {Node: 1, Start: 1, Own: 3, Interleave: true},
		{Node: 1, Start: 1, Own: 1, Interleave: true}, {Node: 2, Start: 2, Own: 3, Interleave: true},
		{Node: 1, Start: 1, Own: 1},
	})
}

// P4: a page that is touched while it has a Bind stands on its nodes, also if others are nearer and have room.
func TestTouchByBind(t *testing.T) {
	m := plain(t, line(3, 4, 0))
	a := malloc(t, m, 0, 1024)
	binds(t, m, a, bindTo(1, 2))
	for i, node := range []int{1, 1, 1, 1, 2, 2, 2, 2} {
		writes(t, m, 0, a, 64*i, "x")
		stands(t, m, a, 64*i, node)
	}
	refusesWrite(t, m, 0, a, 64*8, "x", api.ErrNoMem)
	hasFree(t, m, 4, 0, 0)
}

// P19.1, P19.4: where some pages get no frame: those ahead have theirs, nothing is written, and there is no answer.
func TestTouchWithoutMemory(t *testing.T) {
	for _, least := range []int{0, 1, 5} {
		m := made(t, line(2, 16, 0, 1), heap.Marks{Min: least, Low: 16, High: 16})
		sets(t, m, 0, bindTo(0))
		a := malloc(t, m, 0, 1024)
		fills(t, m, 0, least+3)
		refusesWrite(t, m, 0, a, 60, string(slices.Repeat([]byte("w"), 300)), api.ErrNoMem)
		same(t, "Pages", m.Pages(), []int{1, 2, 3})
		hasFree(t, m, least)
		reads(t, m, 0, a, 0, string(make([]byte, 192)))
		refusesRead(t, m, 0, a, 190, 3, api.ErrNoMem)
		refusesRead(t, m, 0, a, 192, 1, api.ErrNoMem)
		same(t, "Pages", m.Pages(), []int{1, 2, 3})
		if n := len(m.Log().Events()); n != 3 {
			t.Errorf("%d events", n)
		}
		reads(t, m, 1, a, 190, "\x00\x00\x00")
		stands(t, m, a, 192, 1)
	}
}

// P19.4: without a frame for a page the CPU's cache is flushed and empty spans are released, and then there is one; other CPUs' caches stay.
func TestTouchWithFlushAndRelease(t *testing.T) {
	m := plain(t, line(1, 8, 0, 0))
	mallocs(t, m, 0, 64, 64)
	mallocs(t, m, 1, 64, 320)
	frees(t, m, 0, 64)
	frees(t, m, 1, 320)
	a := malloc(t, m, 0, 1024)
	writes(t, m, 0, a, 0, "first")
	same(t, "Spans", m.Spans(), []alloc.Span{{Page: 5, Node: 0, Class: 3, Used: 4}})
	writes(t, m, 0, a, 64, string(make([]byte, 192)))
	refusesWrite(t, m, 0, a, 256, "x", api.ErrNoMem)
	if len(m.Spans()) != 1 {
		t.Errorf("Spans() = %v", m.Spans())
	}
	reads(t, m, 0, a, 0, "first")
	writes(t, m, 1, a, 256, "x")
	if len(m.Spans()) != 0 || len(m.Pages()) != 5 {
		t.Errorf("Spans() = %v, Pages() = %v", m.Spans(), m.Pages())
	}
}

// P19.2: a page that is touched is noughts, also on a frame that others wrote to.
func TestTouchedPagesAreNoughts(t *testing.T) {
	m := plain(t, line(1, 4, 0))
	ones := string(slices.Repeat([]byte{255}, 256))
	for range 3 {
		a := malloc(t, m, 0, 256)
		writes(t, m, 0, a, 0, ones)
		frees(t, m, 0, a)
		b := malloc(t, m, 0, 200)
		writes(t, m, 0, b, 100, "x")
		reads(t, m, 0, b, 0, string(make([]byte, 100))+"x"+string(make([]byte, 99)))
		frees(t, m, 0, b)
		c := malloc(t, m, 0, 64)
		writes(t, m, 0, c, 0, ones[:64])
		frees(t, m, 0, c)
		m.Flush(0)
		m.Release()
	}
}

// P19.1: MBind: the errors, in their order; what is refused gives no page a policy.
func TestMBindRefuses(t *testing.T) {
	m := plain(t, line(2, 16, 0, 1))
	small := malloc(t, m, 0, 64)
	large := malloc(t, m, 0, 65)
	wrong := policy.Policy{Mode: 7}
	for _, addr := range append(slices.Clone(odd), large+1, large+64, small+1, small+64) {
		if addr != small && addr != large {
			tells(t, "MBind", m.MBind(addr, wrong), api.ErrBad, addr)
			tells(t, "MBind", m.MBind(addr, bindTo(0)), api.ErrBad, addr)
		}
	}
	tells(t, "MBind", m.MBind(small, wrong), api.ErrHeld, small)
	tells(t, "MBind", m.MBind(small, bindTo(0)), api.ErrHeld, small)
	for _, w := range wrongPolicies(2) {
		tells(t, "MBind", m.MBind(large, w.p), w.want, large)
	}
	for page := range 4096 {
		if p, has := m.Book().Of(page); has {
			t.Errorf("Of(%d) = %v", page, p)
		}
	}
	frees(t, m, 0, large)
	tells(t, "MBind", m.MBind(large, bindTo(0)), api.ErrBad, large)
}

// P19.1: MBind is of all pages of the object, from the first one to the last, and of none beside; those on frames stay there.
func TestMBind(t *testing.T) {
	for _, n := range []int{65, 128, 129, 1024} {
		m := plain(t, line(2, 64, 0, 1))
		before, a, behind := malloc(t, m, 0, n), malloc(t, m, 0, n), malloc(t, m, 0, n)
		writes(t, m, 0, a, 0, "stays")
		binds(t, m, a, bindTo(1))
		for page := before / 64; page < behind/64+(n+63)/64; page++ {
			p, has := m.Book().Of(page)
			if want := page >= a/64 && page < behind/64; has != want || want && p != bindTo(1) {
				t.Errorf("size %d: Of(%d) = %v, %v", n, page, p, has)
			}
		}
		stands(t, m, a, 0, 0)
		reads(t, m, 0, a, 0, "stays")
		writes(t, m, 0, a, n-1, "x")
		stands(t, m, a, n-1, 1)
		binds(t, m, a, prefer(0))
		stands(t, m, a, n-1, 1)
		if p, has := m.Book().Of(a / 64); p != prefer(0) || !has {
			t.Errorf("Of(%d) = %v, %v", a/64, p, has)
		}
	}
}

// P19.1: Node: of each byte that of its page; the errors, in their order.
func TestNode(t *testing.T) {
	m := plain(t, line(3, 16, 0, 2))
	s, u := malloc(t, m, 0, 40), malloc(t, m, 1, 3)
	for _, at := range []int{0, 1, 39} {
		stands(t, m, s, at, 0)
	}
	stands(t, m, u, 2, 2)
	a := malloc(t, m, 1, 150)
	standsOnNone(t, m, a, 0)
	writes(t, m, 1, a, 64, "x")
	sets(t, m, 1, bindTo(1))
	writes(t, m, 1, a, 149, "x")
	for _, at := range []int{0, 63} {
		standsOnNone(t, m, a, at)
	}
	stands(t, m, a, 64, 2)
	stands(t, m, a, 127, 2)
	stands(t, m, a, 128, 1)
	stands(t, m, a, 149, 1)
	for addr, size := range map[int]int{s: 40, u: 3, a: 150} {
		for _, at := range []int{size, size + 1, -1, 64 * 16, math.MaxInt, math.MinInt} {
			tellsCount(t, "Node", func(at int) (int, api.Errno) { return m.Node(addr, at) }, at, 0, api.ErrBound)
		}
		tellsCount(t, "Node", func(at int) (int, api.Errno) { return m.Node(addr+1, at) }, -1, 0, api.ErrBad)
		tellsCount(t, "Node", func(at int) (int, api.Errno) { return m.Node(addr+1, at) }, 0, 0, api.ErrBad)
	}
	if len(m.Pages()) != 2 {
		t.Errorf("Pages() = %v", m.Pages())
	}
}

// P19.1: Move: the errors, in their order, and what is looked at ahead of what.
func TestMoveRefuses(t *testing.T) {
	m := made(t, line(3, 16, 0, 1), heap.Marks{Min: 2, Low: 2, High: 2})
	s := malloc(t, m, 0, 64)
	a := malloc(t, m, 0, 200)
	binds(t, m, a, bindTo(0))
	writes(t, m, 0, a, 0, "x")
	move := func(page, node int, told bool, want api.Errno) {
		t.Helper()
		if e := m.Move(page, node, told); e != want {
			t.Errorf("Move(%d, %d, %v) = %d, not %d", page, node, told, e, want)
		}
	}
	for _, node := range noNodes(3) {
		for _, page := range []int{a / 64, s / 64, -1, 0, 4095, 4096} {
			move(page, node, true, api.ErrNode)
			move(page, node, false, api.ErrNode)
		}
	}
	for _, page := range append([]int{a/64 + 1, a/64 + 3, a/64 + 4, 0, 100, 4095}, -1, 4096, 1<<32+5, math.MaxInt, math.MinInt) {
		move(page, 0, true, api.ErrMap)
		move(page, 1, false, api.ErrMap)
	}
	for i := range 4 {
		move(s/64+i, 0, true, api.ErrHeld)
		move(s/64+i, 1, true, api.ErrHeld)
		move(s/64+i, 1, false, api.ErrHeld)
	}
	fills(t, m, 1, 2)
	fills(t, m, 0, 2)
	move(a/64, 0, false, api.OK)
	move(a/64, 1, false, api.ErrDeny)
	move(a/64, 1, true, api.ErrNoMem)
	binds(t, m, a, bindTo(1, 2))
	move(a/64, 0, false, api.OK)
	move(a/64, 1, false, api.ErrNoMem)
	move(a/64, 1, true, api.ErrNoMem)
	stands(t, m, a, 0, 0)
	reads(t, m, 0, a, 0, "x")
	hasFree(t, m, 2, 2, 16)
	move(a/64, 2, false, api.OK)
	stands(t, m, a, 0, 2)
	frees(t, m, 0, a)
	move(a/64, 0, true, api.ErrMap)
}

// P19.1, P5: Move: the page stands on the node, with its bytes, at its address; its frame is free; it is no event.
func TestMove(t *testing.T) {
	m := plain(t, line(3, 16, 0, 1))
	a := malloc(t, m, 0, 200)
	text := string(slices.Repeat([]byte("abcdefgh"), 25))
	writes(t, m, 0, a, 0, text)
	hasFree(t, m, 12, 16, 16)
	for i, node := range []int{2, 1, 2, 0, 2} {
		tells(t, "Move", m.Move(a/64+1, node, i%2 == 0), api.OK)
		stands(t, m, a, 64, node)
		stands(t, m, a, 63, 0)
		stands(t, m, a, 128, 0)
		reads(t, m, 1, a, 0, text)
		want := []int{13, 16, 16}
		want[node]--
		hasFree(t, m, want...)
		sound(t, m)
	}
	same(t, "Pages", m.Pages(), []int{1, 2, 3, 4})
	if n := len(m.Log().Events()); n != 4 {
		t.Errorf("%d events", n)
	}
	writes(t, m, 0, a, 64, "new")
	reads(t, m, 0, a, 60, text[60:64]+"new"+text[67:])
	frees(t, m, 1, a)
	empty(t, m)
}

// P19.1: a Move to a frame that was another's: its old bytes are gone.
func TestMoveOverOldBytes(t *testing.T) {
	m := plain(t, line(2, 1, 0, 1))
	a := malloc(t, m, 1, 65)
	writes(t, m, 1, a, 0, string(slices.Repeat([]byte{255}, 64)))
	frees(t, m, 1, a)
	b := malloc(t, m, 0, 65)
	writes(t, m, 0, b, 3, "b")
	tells(t, "Move", m.Move(b/64, 1, false), api.OK)
	reads(t, m, 0, b, 0, "\x00\x00\x00b"+string(make([]byte, 60)))
	stands(t, m, b, 0, 1)
}

// P4, P19.1: only a Bind that hasn't the node forbids a Move, and only if it isn't told.
func TestMoveByPolicy(t *testing.T) {
	for _, c := range []struct {
		p    policy.Policy
		want api.Errno
	}{
		{policy.Policy{}, api.OK}, {policy.Policy{Set: 1}, api.OK}, {bindTo(1), api.OK}, {bindTo(0, 1), api.OK}, {bindTo(0), api.ErrDeny}, {bindTo(0, 2), api.ErrDeny},
		{bindTo(2), api.ErrDeny}, {spread(0), api.OK}, {prefer(0), api.OK}, {policy.Policy{Mode: policy.Preferred, Set: 1, Node: 2}, api.OK},
	} {
		m := plain(t, line(3, 16, 0))
		a := malloc(t, m, 0, 65)
		writes(t, m, 0, a, 0, "x")
		binds(t, m, a, c.p)
		tells(t, "Move", m.Move(a/64, 1, false), c.want)
		if at, _ := m.Node(a, 0); (at == 1) != (c.want == api.OK) {
			t.Errorf("%v: it stands on %d", c.p, at)
		}
		tells(t, "Move", m.Move(a/64, 1, true), api.OK)
		stands(t, m, a, 0, 1)
	}
	// The CPU's policy isn't the page's.
	m := plain(t, line(2, 16, 0))
	a := malloc(t, m, 0, 65)
	sets(t, m, 0, bindTo(0))
	writes(t, m, 0, a, 0, "x")
	tells(t, "Move", m.Move(a/64, 1, false), api.OK)
}

// P9.2: a Move takes no node below its Min, and takes the last frame above it.
func TestMoveAndMin(t *testing.T) {
	for least := range 3 {
		m := made(t, line(2, 8, 0), heap.Marks{Min: least, Low: 8, High: 8})
		a := malloc(t, m, 0, 128)
		writes(t, m, 0, a, 60, "over all")
		fills(t, m, 1, least+1)
		tells(t, "Move", m.Move(a/64, 1, false), api.OK)
		tells(t, "Move", m.Move(a/64+1, 1, false), api.ErrNoMem)
		tells(t, "Move", m.Move(a/64+1, 1, true), api.ErrNoMem)
		hasFree(t, m, 7, least)
		reads(t, m, 0, a, 60, "over all")
	}
}

// P19.1: Pages are those of large objects alone, rising, also if they were touched in another order.
func TestPages(t *testing.T) {
	m := plain(t, line(2, 64, 0, 1))
	a := malloc(t, m, 0, 300)
	malloc(t, m, 0, 64)
	b := malloc(t, m, 1, 65)
	for _, at := range []int{256, 0, 128} {
		writes(t, m, 1, b, min(at, 64), "x")
		writes(t, m, 0, a, at, "x")
	}
	same(t, "Pages", m.Pages(), []int{1, 3, 5, 10, 11})
	frees(t, m, 0, a)
	same(t, "Pages", m.Pages(), []int{10, 11})
}
