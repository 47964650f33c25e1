package alloc_test

import (
	"slices"
	"testing"

	"messuage/alloc"
	"messuage/api"
)

// P19.1: of whom no object is: an address in between, of what was freed, of what is free; ErrCPU is told ahead.
func TestFreeRefuses(t *testing.T) {
	m := plain(t, line(2, 16, 0, 1))
	mallocs(t, m, 0, 8, 64)
	mallocs(t, m, 0, 200, 128)
	for _, cpu := range noCPUs(2) {
		tells(t, "Free", m.Free(cpu, 64), api.ErrCPU, cpu)
		tells(t, "Free", m.Free(cpu, 3), api.ErrCPU, cpu)
	}
	for _, addr := range append(slices.Clone(odd), 72, 80, 88, 96, 127, 129, 192, 256, 320, 384) {
		if addr != 64 {
			tells(t, "Free", m.Free(0, addr), api.ErrBad, addr)
		}
	}
	same(t, "Live", m.Live(), []int{64, 128})
	frees(t, m, 0, 64)
	frees(t, m, 1, 128)
	for _, addr := range []int{64, 128} {
		tells(t, "Free", m.Free(0, addr), api.ErrBad, addr)
		tells(t, "Free", m.Free(1, addr), api.ErrBad, addr)
	}
}

// P19.1: by a CPU of its node an object goes to that CPU's cache, whoever asked for it, and is the next one there.
func TestFreeToTheCache(t *testing.T) {
	m := plain(t, line(2, 16, 0, 0, 1))
	mallocs(t, m, 0, 8, 64, 88)
	frees(t, m, 1, 64)
	same(t, "used", used(m), []int{4})
	mallocs(t, m, 0, 8, 80)
	mallocs(t, m, 1, 8, 64)
	frees(t, m, 0, 88, 80)
	mallocs(t, m, 0, 8, 80, 88, 72)
	tellsCount(t, "Flush", m.Flush, 1, 0, api.OK)
	tellsCount(t, "Drain", m.Drain, 0, 0, api.OK)
}

// P19.1: a full cache: up to eight of a class go in; with the ninth the first four are given back to their spans.
func TestFullCache(t *testing.T) {
	for c, n := range sizes {
		m := plain(t, line(1, 64, 0))
		var addrs []int
		for range 12 {
			addrs = append(addrs, malloc(t, m, 0, n))
		}
		all := func() int {
			sum := 0
			for _, u := range used(m) {
				sum += u
			}
			return sum
		}
		frees(t, m, 0, addrs[:8]...)
		if all() != 12 {
			t.Errorf("class %d: %v are taken", c, used(m))
		}
		frees(t, m, 0, addrs[8])
		if all() != 8 {
			t.Errorf("class %d: %v are taken", c, used(m))
		}
		frees(t, m, 0, addrs[9:]...)
		if all() != 8 {
			t.Errorf("class %d: %v are taken", c, used(m))
		}
		mallocs(t, m, 0, n, addrs[11], addrs[10], addrs[9], addrs[8], addrs[7], addrs[6], addrs[5], addrs[4])
		first := slices.Min(addrs[:4])
		mallocs(t, m, 0, n, first)
	}
}

// P19.1: the four that are given back are those that were pushed first, of that class alone.
func TestFirstFourAreGivenBack(t *testing.T) {
	m := plain(t, line(1, 64, 0))
	mallocs(t, m, 0, 16, 64, 112, 96, 80)
	mallocs(t, m, 0, 16, 128, 176, 160, 144)
	mallocs(t, m, 0, 16, 192)
	mallocs(t, m, 0, 8, 256)
	// The cache has 208, 224 and 240 already, of the third span.
	frees(t, m, 0, 112, 144, 64, 176, 80)
	same(t, "used", used(m), []int{4, 4, 4, 4})
	frees(t, m, 0, 160)
	same(t, "used", used(m), []int{3, 4, 1, 4})
	mallocs(t, m, 0, 16, 160, 80, 176, 64, 144, 112)
}

// P19.1: by a CPU of another node an object goes to the queue of its own node, and nobody gets it, till that is drained.
func TestFreeToTheQueue(t *testing.T) {
	m := plain(t, line(3, 16, 0, 1, 2))
	mallocs(t, m, 0, 16, 64, 112, 96, 80)
	frees(t, m, 1, 64)
	frees(t, m, 2, 96)
	same(t, "used", used(m), []int{4})
	for _, cpu := range []int{1, 2} {
		tellsCount(t, "Flush", m.Flush, cpu, 0, api.OK)
		tellsCount(t, "Drain", m.Drain, cpu, 0, api.OK)
	}
	mallocs(t, m, 0, 16, 128)
	m.Flush(0)
	tellsCount(t, "Drain", m.Drain, 0, 2, api.OK)
	tellsCount(t, "Drain", m.Drain, 0, 0, api.OK)
	same(t, "used", used(m), []int{2, 1})
	mallocs(t, m, 0, 16, 64, 96)
}

// P19.1: a full queue: sixteen go in, of all classes together; what comes then is given back at once.
func TestFullQueue(t *testing.T) {
	m := plain(t, line(2, 64, 0, 1))
	sets(t, m, 0, bindTo(0))
	sets(t, m, 1, bindTo(1))
	var addrs []int
	for i := range 24 {
		addrs = append(addrs, malloc(t, m, 0, []int{8, 16, 32}[i%3]))
	}
	mallocs(t, m, 1, 8, 8*64)
	mallocs(t, m, 1, 8, 8*64+24)
	same(t, "used", used(m), []int{8, 4, 4, 4, 4, 4})
	frees(t, m, 1, addrs[:16]...)
	same(t, "used", used(m), []int{8, 4, 4, 4, 4, 4})
	frees(t, m, 1, addrs[16:]...)
	same(t, "used", used(m), []int{6, 4, 4, 1, 1, 4})
	// The queue of the other node has room still.
	frees(t, m, 0, 8*64)
	same(t, "used", used(m)[5:], []int{4})
	tellsCount(t, "Drain", m.Drain, 1, 1, api.OK)
	same(t, "used", used(m)[5:], []int{3})
	tellsCount(t, "Drain", m.Drain, 0, 16, api.OK)
	same(t, "used", used(m), []int{0, 0, 0, 0, 0, 3})
	tells(t, "Free", m.Free(0, addrs[0]), api.ErrBad)
	tells(t, "Free", m.Free(0, addrs[20]), api.ErrBad)
}

// P19.1: a queue that was drained has room again.
func TestQueueAgain(t *testing.T) {
	m := plain(t, line(2, 64, 0, 1))
	for range 3 {
		var addrs []int
		for range 16 {
			addrs = append(addrs, malloc(t, m, 0, 8))
		}
		frees(t, m, 1, addrs...)
		same(t, "used", used(m), []int{8, 8})
		tellsCount(t, "Drain", m.Drain, 0, 16, api.OK)
		same(t, "used", used(m), []int{0, 0})
	}
}

// P19.1: which queue and which cache an object goes to hangs on its span's node, not on whose policy or cache it came by.
func TestNodeOfTheSpan(t *testing.T) {
	m := plain(t, line(2, 16, 0, 1))
	sets(t, m, 0, bindTo(1))
	mallocs(t, m, 0, 32, 64, 160)
	frees(t, m, 0, 64)
	tellsCount(t, "Drain", m.Drain, 0, 0, api.OK)
	tellsCount(t, "Drain", m.Drain, 1, 1, api.OK)
	frees(t, m, 1, 160)
	tellsCount(t, "Flush", m.Flush, 1, 1, api.OK)
	tellsCount(t, "Flush", m.Flush, 0, 2, api.OK)
}

// P19.1: Drain and Flush: of no such node or CPU nothing; of one nothing of the others.
func TestDrainAndFlush(t *testing.T) {
	m := plain(t, line(3, 16, 0, 1, 2))
	for cpu := range 3 {
		sets(t, m, cpu, bindTo(cpu))
		a := malloc(t, m, cpu, 8)
		frees(t, m, (cpu+1)%3, a)
	}
	for _, node := range noNodes(3) {
		tellsCount(t, "Drain", m.Drain, node, 0, api.ErrNode)
	}
	for _, cpu := range noCPUs(3) {
		tellsCount(t, "Flush", m.Flush, cpu, 0, api.ErrCPU)
	}
	for i := range 3 {
		tellsCount(t, "Drain", m.Drain, i, 1, api.OK)
		tellsCount(t, "Drain", m.Drain, i, 0, api.OK)
		want := []int{4, 4, 4}
		for j := range i + 1 {
			want[j] = 3
		}
		same(t, "used", used(m), want)
	}
	for i := range 3 {
		tellsCount(t, "Flush", m.Flush, i, 3, api.OK)
		tellsCount(t, "Flush", m.Flush, i, 0, api.OK)
		want := []int{3, 3, 3}
		for j := range i + 1 {
			want[j] = 0
		}
		same(t, "used", used(m), want)
	}
}

// P19.1: Flush gives back all classes.
func TestFlushAllClasses(t *testing.T) {
	m := plain(t, line(1, 64, 0))
	for _, n := range sizes {
		frees(t, m, 0, malloc(t, m, 0, n))
	}
	tellsCount(t, "Flush", m.Flush, 0, 16, api.OK)
	same(t, "used", used(m), []int{0, 0, 0, 0})
}

// P19.1: Release: only spans without a taken object go, and objects in caches and queues are taken.
func TestRelease(t *testing.T) {
	m := plain(t, line(2, 16, 0, 1))
	for _, n := range []int{8, 16, 32, 64} {
		malloc(t, m, 0, n)
	}
	hasFree(t, m, 8, 16)
	releases(t, m, 0)
	frees(t, m, 0, 64, 192)
	frees(t, m, 1, 128)
	releases(t, m, 0)
	tellsCount(t, "Flush", m.Flush, 0, 3+1+3+3+1+3, api.OK)
	releases(t, m, 2)
	same(t, "Spans", m.Spans(), []alloc.Span{{Page: 2, Node: 0, Class: 1, Used: 1}, {Page: 5, Node: 0, Class: 3, Used: 1}})
	hasFree(t, m, 11, 16)
	releases(t, m, 0)
	if m.Memory().Mapped() != 5 {
		t.Errorf("%d pages stand on frames", m.Memory().Mapped())
	}
	tellsCount(t, "Drain", m.Drain, 0, 1, api.OK)
	releases(t, m, 1)
	// The pages are free again: the lowest ones are taken first.
	mallocs(t, m, 0, 17, 64)
	mallocs(t, m, 0, 65, 192)
	frees(t, m, 0, 64, 5*64, 192)
	empty(t, m)
}

// P19.1: pages and frames of a span that was released may be another span's, or a large object's.
func TestReleasedPages(t *testing.T) {
	m := plain(t, line(1, 4, 0))
	for range 3 {
		mallocs(t, m, 0, 64, 64)
		frees(t, m, 0, 64)
		m.Flush(0)
		releases(t, m, 1)
		mallocs(t, m, 0, 256, 64)
		tells(t, "Write", m.Write(0, 64, 0, make([]byte, 256)), api.OK)
		hasFree(t, m, 0)
		frees(t, m, 0, 64)
		hasFree(t, m, 4)
	}
}

func releases(t *testing.T, m *alloc.Machine, want int) {
	t.Helper()
	if n := m.Release(); n != want {
		t.Errorf("Release() = %d, not %d", n, want)
	}
}

// P19.1: of a large object the frames of all its nodes are free at once, its pages too, whichever CPU frees it.
func TestFreeLarge(t *testing.T) {
	for cpu := range 2 {
		m := plain(t, line(2, 16, 0, 1))
		mallocs(t, m, 0, 1024, 64)
		mallocs(t, m, 0, 100, 64*17)
		sets(t, m, 0, spread(0, 1))
		for at := 0; at < 1024; at += 128 {
			tells(t, "Write", m.Write(0, 64, at, []byte("x")), api.OK)
		}
		tells(t, "Write", m.Write(0, 64*17, 0, []byte("x")), api.OK)
		hasFree(t, m, 12, 11)
		frees(t, m, cpu, 64)
		hasFree(t, m, 16, 15)
		same(t, "Pages", m.Pages(), []int{17})
		tellsCount(t, "Drain", m.Drain, 0, 0, api.OK)
		tellsCount(t, "Drain", m.Drain, 1, 0, api.OK)
		mallocs(t, m, 0, 960, 64)
		mallocs(t, m, 0, 8, 64*16)
	}
}

// P19.1: pages of a large object that was freed have no policy; those of others keep theirs.
func TestFreeClearsPolicies(t *testing.T) {
	m := plain(t, line(2, 16, 0, 1))
	mallocs(t, m, 0, 128, 64, 192, 320)
	for _, a := range []int{64, 192, 320} {
		binds(t, m, a, bindTo(1))
	}
	frees(t, m, 0, 192)
	for page := 1; page <= 6; page++ {
		_, has := m.Book().Of(page)
		if want := page != 3 && page != 4; has != want {
			t.Errorf("Of(%d): %v", page, has)
		}
	}
	mallocs(t, m, 0, 128, 192)
	tells(t, "Write", m.Write(0, 192, 0, []byte("x")), api.OK)
	hasFree(t, m, 15, 16)
}
