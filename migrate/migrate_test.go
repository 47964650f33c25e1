package migrate_test

import (
	"fmt"
	"math"
	"slices"
	"testing"

	"messuage/alloc"
	"messuage/api"
	"messuage/audit"
	"messuage/heap"
	"messuage/migrate"
	"messuage/nodeset"
	"messuage/policy"
	"messuage/stats"
	"messuage/topo"
)

// odd are numbers at the ends of all that an int can be, and near to such limits as chapters name.
var odd = []int{
	0, 1, 8, 9, 63, 64, 65, 1024, 4095, 4096, 4097, 262143, 262144, 262145, -1, -2, -64, -262144,
	1 << 32, 1<<32 + 1, 1<<32 + 64, math.MaxInt, math.MaxInt - 1, math.MaxInt - 63, math.MinInt, math.MinInt + 1, math.MinInt + 64,
}

// noNodes are numbers of no node of n.
func noNodes(n int) []int {
	return []int{-1, -2, -n, n, n + 1, 8, 9, 255, 256, 1 << 32, 1<<32 + 1, math.MaxInt, math.MinInt, math.MinInt + 1}
}

// line is nodes side by side in a line: the farther apart two numbers are, the greater is the distance.
func line(nodes, each int, cpus ...int) topo.Topo {
	t := topo.Topo{Nodes: nodes, Frames: each, CPUs: cpus}
	for from := range nodes {
		var row []int
		for to := range nodes {
			row = append(row, 10+10*max(from-to, to-from))
		}
		t.Dist = append(t.Dist, row)
	}
	return t
}

// star is nodes that are all as far from each other, but for the last one, which is nearer to all of them.
func star(nodes, each int, cpus ...int) topo.Topo {
	t := line(nodes, each, cpus...)
	for from, row := range t.Dist {
		for to := range row {
			if from != to {
				row[to] = 40
			}
			if from != to && max(from, to) == nodes-1 {
				row[to] = 20
			}
		}
	}
	return t
}

func bindTo(nodes ...int) policy.Policy {
	set, _ := nodeset.Of(nodes)
	return policy.Policy{Mode: policy.Bind, Set: set}
}

func made(t *testing.T, shape topo.Topo, marks heap.Marks) *alloc.Machine {
	t.Helper()
	m, e := alloc.New(shape, marks)
	if m == nil || e != api.OK {
		t.Fatalf("New(%v, %v) = %v, %d", shape, marks, m, e)
	}
	return m
}

func malloc(t *testing.T, m *alloc.Machine, cpu, n int) int {
	t.Helper()
	addr, e := m.Malloc(cpu, n)
	if addr <= 0 || e != api.OK {
		t.Fatalf("Malloc(%d, %d) = %d, %d", cpu, n, addr, e)
	}
	return addr
}

// touched is a large object of so many pages, all of which stand on frames that a CPU acquired, each with bytes of its own.
func touched(t *testing.T, m *alloc.Machine, cpu, pages int) int {
	t.Helper()
	addr := malloc(t, m, cpu, pages*64)
	for page := range pages {
		touch(t, m, cpu, addr, page)
	}
	return addr
}

// touch writes a byte that others don't have into a page of an object, that is counted from the object's first one.
func touch(t *testing.T, m *alloc.Machine, cpu, addr, page int) {
	t.Helper()
	tells(t, "Write", m.Write(cpu, addr, 64*page, []byte{byte(addr/64 + page)}), api.OK, cpu, addr, page)
}

// binds gives a page a policy, that is counted from the object's first one.
func binds(t *testing.T, m *alloc.Machine, addr, page int, p policy.Policy) {
	t.Helper()
	tells(t, "Set", m.Book().Set(addr/64+page, 1, p), api.OK, addr, page)
}

// leaves takes frames out of a node's heap till so many are free.
func leaves(t *testing.T, m *alloc.Machine, node, free int) {
	t.Helper()
	for n, _ := m.Heap().Free(node); n > free; n-- {
		if _, e := m.Heap().Take(node, 0); e != api.OK {
			t.Fatalf("Take(%d, 0): %d", node, e)
		}
	}
	hasFree(t, m, node, free)
}

func hasFree(t *testing.T, m *alloc.Machine, node, want int) {
	t.Helper()
	if n, e := m.Heap().Free(node); n != want || e != api.OK {
		t.Errorf("node %d: %d frames are free (%d), not %d", node, n, e, want)
	}
}

func tells(t *testing.T, what string, got, want api.Errno, arguments ...int) {
	t.Helper()
	if got != want {
		t.Errorf("%s%v = %d, not %d", what, arguments, got, want)
	}
}

func lists(t *testing.T, what string, got, want []migrate.Status) {
	t.Helper()
	if !slices.Equal(got, want) {
		t.Errorf("%s: %v, not %v", what, got, want)
	}
}

func moves(t *testing.T, m *alloc.Machine, addr, node int, told bool, want ...migrate.Status) {
	t.Helper()
	got, e := migrate.Object(m, addr, node, told)
	tells(t, "Object", e, api.OK, addr, node)
	lists(t, fmt.Sprint("Object", addr, node, told), got, want)
}

func queries(t *testing.T, m *alloc.Machine, addr int, want ...migrate.Status) {
	t.Helper()
	got, e := migrate.Query(m, addr)
	tells(t, "Query", e, api.OK, addr)
	lists(t, fmt.Sprint("Query", addr), got, want)
}

func ticks(t *testing.T, m *alloc.Machine, most int, want ...migrate.Status) {
	t.Helper()
	lists(t, fmt.Sprint("Tick", most), migrate.Tick(m, most), want)
}

func refusesObject(t *testing.T, m *alloc.Machine, addr, node int, want api.Errno) {
	t.Helper()
	for _, told := range []bool{false, true} {
		if list, e := migrate.Object(m, addr, node, told); len(list) != 0 || e != want {
			t.Errorf("Object(%d, %d, %v) = %v, %d, not %d", addr, node, told, list, e, want)
		}
	}
}

func refusesQuery(t *testing.T, m *alloc.Machine, addr int) {
	t.Helper()
	if list, e := migrate.Query(m, addr); len(list) != 0 || e != api.ErrBad {
		t.Errorf("Query(%d) = %v, %d, not %d", addr, list, e, api.ErrBad)
	}
}

// seen is what can be seen of a machine that no move changes.
type seen struct {
	sizes  map[int]int // by address of a live object
	spans  []alloc.Span
	pages  []int
	events []stats.Event
	bytes  map[int][]byte // by page that stands on a frame
	rules  map[int]policy.Policy
}

// placed is what a move may change: the frames, by page, and how many are free, by node.
type placed struct {
	frames map[int]int
	free   []int
}

func look(m *alloc.Machine) (seen, placed) {
	s := seen{sizes: map[int]int{}, spans: m.Spans(), pages: m.Pages(), events: m.Log().Events(), bytes: map[int][]byte{}, rules: map[int]policy.Policy{}}
	p := placed{frames: map[int]int{}}
	for _, addr := range m.Live() {
		s.sizes[addr], _ = m.Size(addr)
	}
	for page := range api.MaxPages {
		if frame, stands := m.Memory().Frame(page); stands {
			b, _ := m.Memory().Read(page*64, 64)
			s.bytes[page], p.frames[page] = b, frame
		}
		if rule, has := m.Book().Of(page); has {
			s.rules[page] = rule
		}
	}
	for node := range m.Topo().Nodes {
		n, _ := m.Heap().Free(node)
		p.free = append(p.free, n)
	}
	return s, p
}

// keeps does something that may move pages, and looks whether all else is as it was.
func keeps(t *testing.T, m *alloc.Machine, what string, do func()) {
	t.Helper()
	before, _ := look(m)
	do()
	if after, _ := look(m); fmt.Sprint(after) != fmt.Sprint(before) {
		t.Errorf("%s: %v, not %v", what, after, before)
	}
}

// stays does something, and looks whether all is as it was, frames and all.
func stays(t *testing.T, m *alloc.Machine, what string, do func()) {
	t.Helper()
	_, before := look(m)
	keeps(t, m, what, do)
	if _, after := look(m); fmt.Sprint(after) != fmt.Sprint(before) {
		t.Errorf("%s: %v, not %v", what, after, before)
	}
}

// P20.1: the document's example, of objects of each class, wherever within their span.
func TestQueryOfASpan(t *testing.T) {
	m := made(t, line(3, 64, 0, 2), heap.Marks{})
	for cpu, node := range []int{0, 2} {
		tells(t, "SetPolicy", m.SetPolicy(cpu, bindTo(node)), api.OK)
		for _, n := range []int{1, 8, 9, 16, 17, 32, 33, 63, 64} {
			for range 9 {
				addr := malloc(t, m, cpu, n)
				queries(t, m, addr, migrate.Status{Page: addr / 64, From: node, To: node})
			}
		}
	}
}

// P20.1: an object of a span doesn't move: not to another node, not to its own one, told or not.
func TestObjectOfASpan(t *testing.T) {
	m := made(t, line(3, 64, 0, 2), heap.Marks{})
	for cpu, own := range []int{0, 2} {
		tells(t, "SetPolicy", m.SetPolicy(cpu, bindTo(own)), api.OK)
		for _, n := range []int{1, 8, 16, 17, 32, 33, 64} {
			for range 5 {
				addr := malloc(t, m, cpu, n)
				stays(t, m, "Object of a span", func() {
					for node := range 3 {
						moves(t, m, addr, node, false, migrate.Status{Page: addr / 64, From: own, To: own, Err: api.ErrHeld})
						moves(t, m, addr, node, true, migrate.Status{Page: addr / 64, From: own, To: own, Err: api.ErrHeld})
					}
				})
			}
		}
	}
}

// P20.1, P20.3: large objects from the least to the greatest: all pages, rising; to all nodes, the first and the last among them.
func TestObject(t *testing.T) {
	for _, n := range []int{65, 127, 128, 129, 192, 193, 1023, 1024} {
		m := made(t, line(4, 32, 1, 3), heap.Marks{})
		malloc(t, m, 0, 100)
		addr := malloc(t, m, 0, n)
		pages := (n + 63) / 64
		for page := range pages {
			touch(t, m, 0, addr, page)
		}
		from := 1
		for _, node := range []int{0, 3, 2, 2, 1, 3, 0} {
			var want, stand []migrate.Status
			for page := addr / 64; page < addr/64+pages; page++ {
				want = append(want, migrate.Status{Page: page, From: from, To: node})
				stand = append(stand, migrate.Status{Page: page, From: node, To: node})
			}
			keeps(t, m, "Object", func() { moves(t, m, addr, node, false, want...) })
			stays(t, m, "Query", func() { queries(t, m, addr, stand...) })
			hasFree(t, m, node, 32-pages)
			from = node
		}
	}
}

// P20.1: pages that stand on no frame stay so, those beside them move.
func TestPagesOnNoFrame(t *testing.T) {
	m := made(t, line(2, 16, 0, 1), heap.Marks{})
	addr := malloc(t, m, 0, 5*64)
	first := addr / 64
	none := func(page int) migrate.Status {
		return migrate.Status{Page: first + page, From: -1, To: -1, Err: api.ErrMap}
	}
	queries(t, m, addr, none(0), none(1), none(2), none(3), none(4))
	moves(t, m, addr, 1, false, none(0), none(1), none(2), none(3), none(4))
	moves(t, m, addr, 0, true, none(0), none(1), none(2), none(3), none(4))
	touch(t, m, 0, addr, 1)
	touch(t, m, 1, addr, 3)
	queries(t, m, addr, none(0), migrate.Status{Page: first + 1}, none(2), migrate.Status{Page: first + 3, From: 1, To: 1}, none(4))
	keeps(t, m, "Object", func() {
		moves(t, m, addr, 1, false, none(0), migrate.Status{Page: first + 1, From: 0, To: 1}, none(2), migrate.Status{Page: first + 3, From: 1, To: 1}, none(4))
	})
	moves(t, m, addr, 0, true, none(0), migrate.Status{Page: first + 1, From: 1, To: 0}, none(2), migrate.Status{Page: first + 3, From: 1, To: 0}, none(4))
	hasFree(t, m, 1, 16)
}

// P20.1: a page that stands on the node already is well there, and needs no frame: even without free ones, and where its Bind forbids it.
func TestOnTheNodeAlready(t *testing.T) {
	m := made(t, line(2, 4, 0, 1), heap.Marks{})
	addr := touched(t, m, 1, 3)
	leaves(t, m, 1, 0)
	tells(t, "MBind", m.MBind(addr, bindTo(0)), api.OK)
	first := addr / 64
	stays(t, m, "Object", func() {
		for _, told := range []bool{false, true} {
			moves(t, m, addr, 1, told, migrate.Status{Page: first, From: 1, To: 1}, migrate.Status{Page: first + 1, From: 1, To: 1}, migrate.Status{Page: first + 2, From: 1, To: 1})
		}
	})
}

// P20.1, P4: pages with a Bind go only where it has a node, unless it is told; pages without one, or with another policy, go anywhere.
func TestBinds(t *testing.T) {
	m := made(t, line(3, 16, 0), heap.Marks{})
	addr := touched(t, m, 0, 6)
	first := addr / 64
	binds(t, m, addr, 1, bindTo(0))
	binds(t, m, addr, 2, bindTo(0, 2))
	binds(t, m, addr, 3, policy.Policy{Mode: policy.Interleave, Set: 1})
	binds(t, m, addr, 4, policy.Policy{Mode: policy.Preferred, Set: 1, Node: 0})
	binds(t, m, addr, 5, policy.Policy{Mode: policy.Default, Set: 1})
	keeps(t, m, "not told", func() {
		moves(t, m, addr, 2, false,
			migrate.Status{Page: first, To: 2}, migrate.Status{Page: first + 1, Err: api.ErrDeny}, migrate.Status{Page: first + 2, To: 2},
			migrate.Status{Page: first + 3, To: 2}, migrate.Status{Page: first + 4, To: 2}, migrate.Status{Page: first + 5, To: 2})
	})
	if list := audit.Strays(m); len(list) != 0 {
		t.Errorf("strays: %v", list)
	}
	keeps(t, m, "told", func() {
		moves(t, m, addr, 1, true,
			migrate.Status{Page: first, From: 2, To: 1}, migrate.Status{Page: first + 1, To: 1}, migrate.Status{Page: first + 2, From: 2, To: 1},
			migrate.Status{Page: first + 3, From: 2, To: 1}, migrate.Status{Page: first + 4, From: 2, To: 1}, migrate.Status{Page: first + 5, From: 2, To: 1})
	})
	if list := audit.Strays(m); !slices.Equal(list, []int{first + 1, first + 2}) {
		t.Errorf("strays: %v", list)
	}
	// Strays may go home.
	moves(t, m, addr, 0, false,
		migrate.Status{Page: first, From: 1}, migrate.Status{Page: first + 1, From: 1}, migrate.Status{Page: first + 2, From: 1},
		migrate.Status{Page: first + 3, From: 1}, migrate.Status{Page: first + 4, From: 1}, migrate.Status{Page: first + 5, From: 1})
}

// P20.1: a node gives no frame that would leave less than Min: just those above it are given, to the first pages; a page that is denied is denied ahead of that.
func TestMin(t *testing.T) {
	m := made(t, line(2, 8, 0), heap.Marks{Min: 2, Low: 2, High: 2})
	addr := touched(t, m, 0, 4)
	first := addr / 64
	leaves(t, m, 1, 2)
	stays(t, m, "just Min is left", func() {
		for _, told := range []bool{false, true} {
			moves(t, m, addr, 1, told, migrate.Status{Page: first, Err: api.ErrNoMem}, migrate.Status{Page: first + 1, Err: api.ErrNoMem},
				migrate.Status{Page: first + 2, Err: api.ErrNoMem}, migrate.Status{Page: first + 3, Err: api.ErrNoMem})
		}
	})
	binds(t, m, addr, 0, bindTo(0))
	stays(t, m, "denied", func() {
		moves(t, m, addr, 1, false, migrate.Status{Page: first, Err: api.ErrDeny}, migrate.Status{Page: first + 1, Err: api.ErrNoMem},
			migrate.Status{Page: first + 2, Err: api.ErrNoMem}, migrate.Status{Page: first + 3, Err: api.ErrNoMem})
	})

	m = made(t, line(2, 8, 0), heap.Marks{Min: 2, Low: 2, High: 2})
	addr = touched(t, m, 0, 4)
	leaves(t, m, 1, 4)
	keeps(t, m, "two above Min", func() {
		moves(t, m, addr, 1, false, migrate.Status{Page: first, To: 1}, migrate.Status{Page: first + 1, To: 1},
			migrate.Status{Page: first + 2, Err: api.ErrNoMem}, migrate.Status{Page: first + 3, Err: api.ErrNoMem})
	})
	hasFree(t, m, 1, 2)
	hasFree(t, m, 0, 6)
}

// P20.1: of one node alone: pages stand where they may stand.
func TestOneNode(t *testing.T) {
	m := made(t, line(1, 4, 0), heap.Marks{Low: 4, High: 4})
	addr := touched(t, m, 0, 2)
	first := addr / 64
	stays(t, m, "one node", func() {
		moves(t, m, addr, 0, false, migrate.Status{Page: first}, migrate.Status{Page: first + 1})
		moves(t, m, addr, 0, true, migrate.Status{Page: first}, migrate.Status{Page: first + 1})
		queries(t, m, addr, migrate.Status{Page: first}, migrate.Status{Page: first + 1})
		ticks(t, m, 9)
		refusesObject(t, m, addr, 1, api.ErrNode)
		refusesObject(t, m, addr, -1, api.ErrNode)
	})
}

// P20.1: no object, and then no node: ErrBad, and then ErrNode; nothing changes.
func TestRefused(t *testing.T) {
	m := made(t, line(3, 32, 0, 2), heap.Marks{Min: 1, Low: 2, High: 3})
	small, large := malloc(t, m, 0, 20), touched(t, m, 1, 4)
	gone, goneLarge := malloc(t, m, 0, 20), touched(t, m, 1, 4)
	for _, addr := range []int{gone, goneLarge} {
		tells(t, "Free", m.Free(0, addr), api.OK, addr)
	}
	stays(t, m, "refused", func() {
		bad := append([]int{gone, goneLarge, small + 1, small - 1, large + 1, large - 1, large + 64, large - 64, large / 64, -large}, odd...)
		for _, addr := range bad {
			if slices.Contains(m.Live(), addr) {
				continue
			}
			refusesQuery(t, m, addr)
			for _, node := range append(noNodes(3), 0, 1, 2) {
				refusesObject(t, m, addr, node, api.ErrBad)
			}
		}
		for _, node := range noNodes(3) {
			if node < 0 || node > 2 {
				refusesObject(t, m, small, node, api.ErrNode)
				refusesObject(t, m, large, node, api.ErrNode)
			}
		}
	})
}

// P20.1, P1: a nil machine, and one that New didn't make: no object is there, and nothing moves.
func TestNil(t *testing.T) {
	for _, m := range []*alloc.Machine{nil, {}} {
		for _, addr := range odd {
			refusesQuery(t, m, addr)
			for _, node := range odd {
				refusesObject(t, m, addr, node, api.ErrBad)
			}
			ticks(t, m, addr)
		}
	}
}

// P1, P20.2: odd numbers on a machine with objects: no panic, and no change of what can be read.
func TestOddArguments(t *testing.T) {
	m := made(t, line(2, 16, 0, 1), heap.Marks{Low: 10, High: 12})
	malloc(t, m, 0, 8)
	touched(t, m, 0, 5)
	keeps(t, m, "odd arguments", func() {
		for _, a := range odd {
			migrate.Query(m, a)
			for _, b := range odd {
				migrate.Object(m, a, b, false)
				migrate.Object(m, a, b, true)
			}
			migrate.Tick(m, a)
		}
	})
	if !audit.Sound(m) {
		t.Error("not sound")
	}
}

// P20.1: only below Low is a node poor: at Low nothing moves, one below it one page does.
func TestTickAtLow(t *testing.T) {
	for _, c := range []struct{ pages, moved int }{{4, 0}, {5, 0}, {6, 1}, {7, 2}, {8, 3}} {
		m := made(t, line(2, 8, 0), heap.Marks{Low: 3, High: 3})
		addr := touched(t, m, 0, c.pages)
		var want []migrate.Status
		for page := range c.moved {
			want = append(want, migrate.Status{Page: addr/64 + page, From: 0, To: 1})
		}
		keeps(t, m, "Tick", func() { ticks(t, m, 99, want...) })
		hasFree(t, m, 0, 8-c.pages+c.moved)
		stays(t, m, "the next Tick", func() { ticks(t, m, 99) })
	}
}

// P20.1: only above High is a node rich: at High it gets nothing, one above it one page.
func TestTickAtHigh(t *testing.T) {
	for _, c := range []struct{ free, moved int }{{3, 0}, {4, 0}, {5, 0}, {6, 1}, {7, 2}, {8, 3}} {
		m := made(t, line(2, 8, 0), heap.Marks{Min: 0, Low: 4, High: 5})
		addr := touched(t, m, 0, 7)
		leaves(t, m, 1, c.free)
		// With 3 free frames node 1 is poor itself, but it has no page that could move.
		var want []migrate.Status
		for page := range c.moved {
			want = append(want, migrate.Status{Page: addr/64 + page, From: 0, To: 1})
		}
		ticks(t, m, 99, want...)
		hasFree(t, m, 0, 1+c.moved)
		hasFree(t, m, 1, c.free-c.moved)
	}
}

// P20.1: no more pages than most move by one call, of all nodes together; none, if it is below 1.
func TestTickMost(t *testing.T) {
	build := func() (*alloc.Machine, int, int) {
		m := made(t, line(3, 8, 0, 1), heap.Marks{Low: 3, High: 3})
		return m, touched(t, m, 0, 8) / 64, touched(t, m, 1, 7) / 64
	}
	m, a, b := build()
	all := []migrate.Status{
		{Page: a, From: 0, To: 2}, {Page: a + 1, From: 0, To: 2}, {Page: a + 2, From: 0, To: 2},
		{Page: b, From: 1, To: 2}, {Page: b + 1, From: 1, To: 2},
	}
	for _, most := range []int{0, -1, -2, -5, math.MinInt, math.MinInt + 1} {
		stays(t, m, "none", func() { ticks(t, m, most) })
	}
	for _, status := range all {
		keeps(t, m, "one", func() { ticks(t, m, 1, status) })
	}
	stays(t, m, "enough", func() { ticks(t, m, 1) })
	for _, most := range []int{1, 2, 3, 4, 5, 6, 99, 1 << 32, math.MaxInt - 1, math.MaxInt} {
		m, _, _ := build()
		ticks(t, m, most, all[:min(most, 5)]...)
		ticks(t, m, math.MaxInt, all[min(most, 5):]...)
	}
}

// P20.1: of the rich nodes the nearest one, by distance, and then by number, gets the page; when it isn't rich any more, the next one.
func TestTickNearest(t *testing.T) {
	status := func(page, from, to int) migrate.Status { return migrate.Status{Page: page, From: from, To: to} }
	m := made(t, line(4, 8, 2), heap.Marks{Low: 6, High: 6})
	a := touched(t, m, 0, 7) / 64
	// From node 2 nodes 1 and 3 are as near, and 0 is farther away. Each has room for two pages till it isn't rich.
	ticks(t, m, 99, status(a, 2, 1), status(a+1, 2, 1), status(a+2, 2, 3), status(a+3, 2, 3), status(a+4, 2, 0))

	m = made(t, star(4, 8, 0), heap.Marks{Low: 6, High: 6})
	a = touched(t, m, 0, 8) / 64
	ticks(t, m, 99, status(a, 0, 3), status(a+1, 0, 3), status(a+2, 0, 1), status(a+3, 0, 1), status(a+4, 0, 2), status(a+5, 0, 2))

	// The last node is the poor one, and the first one the only rich one.
	m = made(t, line(8, 8, 7), heap.Marks{Low: 2, High: 7})
	for node := 1; node < 7; node++ {
		leaves(t, m, node, 7)
	}
	a = touched(t, m, 0, 8) / 64
	ticks(t, m, 99, status(a, 7, 0))
}

// P20.1: a page goes only to nodes of its Bind; if none of those is rich, nothing of it is told, and the next page is looked at.
func TestTickBinds(t *testing.T) {
	m := made(t, line(4, 16, 0), heap.Marks{Low: 14, High: 14})
	addr := touched(t, m, 0, 9)
	a := addr / 64
	binds(t, m, addr, 0, bindTo(0))
	binds(t, m, addr, 2, bindTo(0, 3))
	binds(t, m, addr, 3, bindTo(2, 1))
	binds(t, m, addr, 4, bindTo(0))
	binds(t, m, addr, 5, bindTo(2))
	binds(t, m, addr, 6, policy.Policy{Mode: policy.Interleave, Set: 1})
	binds(t, m, addr, 7, policy.Policy{Mode: policy.Preferred, Node: 0})
	keeps(t, m, "Tick", func() {
		ticks(t, m, 99,
			migrate.Status{Page: a + 1, To: 1}, migrate.Status{Page: a + 2, To: 3}, migrate.Status{Page: a + 3, To: 1},
			migrate.Status{Page: a + 5, To: 2}, migrate.Status{Page: a + 6, To: 2}, migrate.Status{Page: a + 7, To: 3})
	})
	if list := audit.Strays(m); len(list) != 0 {
		t.Errorf("strays: %v", list)
	}
	// Those that stay are looked at again, and moved none of them: most counts only what moved.
	m = made(t, line(2, 16, 0), heap.Marks{Low: 14, High: 14})
	addr = touched(t, m, 0, 6)
	for page := range 4 {
		binds(t, m, addr, page, bindTo(0))
	}
	ticks(t, m, 1, migrate.Status{Page: a + 4, To: 1})
	ticks(t, m, 1, migrate.Status{Page: a + 5, To: 1})
	ticks(t, m, 1)
}

// P20.1: pages of several objects, rising; those of spans, those that stand on other nodes, and those on no frame aren't looked at.
func TestTickPages(t *testing.T) {
	m := made(t, line(2, 32, 0, 1), heap.Marks{Low: 31, High: 31})
	one := malloc(t, m, 0, 3*64)
	malloc(t, m, 0, 64)
	two := malloc(t, m, 0, 2*64)
	touch(t, m, 0, two, 1)
	touch(t, m, 1, one, 0)
	touch(t, m, 0, one, 2)
	leaves(t, m, 1, 31)
	// At High no node takes a page: nothing moves, till there is a frame more.
	stays(t, m, "no rich node", func() { ticks(t, m, 99) })
	tells(t, "Object", second(migrate.Object(m, one, 0, true)), api.OK)
	keeps(t, m, "Tick", func() { ticks(t, m, 99, migrate.Status{Page: one / 64, From: 0, To: 1}) })

	// Only spans stand on the poor node: no page moves.
	m = made(t, line(2, 8, 0), heap.Marks{Low: 8, High: 8})
	malloc(t, m, 0, 64)
	stays(t, m, "spans", func() { ticks(t, m, 99) })
	m = made(t, line(2, 8, 0), heap.Marks{Low: 7, High: 7})
	malloc(t, m, 0, 64)
	stays(t, m, "spans", func() { ticks(t, m, 99) })
	two = touched(t, m, 0, 2)
	ticks(t, m, 99, migrate.Status{Page: two / 64, To: 1})
}

func second(_ []migrate.Status, e api.Errno) api.Errno { return e }

// P20.1: each node is judged when it is come to: what an earlier one took is gone.
func TestTickByTurns(t *testing.T) {
	m := made(t, line(3, 8, 0, 1), heap.Marks{Low: 2, High: 6})
	a, b := touched(t, m, 0, 8)/64, touched(t, m, 1, 8)/64
	ticks(t, m, 99, migrate.Status{Page: a, From: 0, To: 2}, migrate.Status{Page: a + 1, From: 0, To: 2})
	hasFree(t, m, 1, 0)
	ticks(t, m, 99)
	// When node 0 has enough, node 1 gets what is there.
	tells(t, "Free", m.Free(0, a*64), api.OK)
	ticks(t, m, 99, migrate.Status{Page: b, From: 1, To: 0}, migrate.Status{Page: b + 1, From: 1, To: 0})
}

// went is that n pages from one on went from a node to another.
func went(page, n, from, to int) []migrate.Status {
	var list []migrate.Status
	for i := range n {
		list = append(list, migrate.Status{Page: page + i, From: from, To: to})
	}
	return list
}

// P20.2, P5: an object's bytes are the same wherever it stands, and can be written there.
func TestBytesMove(t *testing.T) {
	m := made(t, line(3, 32, 0, 1, 2), heap.Marks{Low: 20, High: 20})
	addr := malloc(t, m, 0, 1000)
	want := make([]byte, 1000)
	for i := range want {
		want[i] = byte(i*7 + i/64)
	}
	tells(t, "Write", m.Write(0, addr, 0, want), api.OK)
	for turn := range 12 {
		if turn%3 == 2 {
			migrate.Tick(m, 3)
		} else {
			tells(t, "Object", second(migrate.Object(m, addr, (turn+1)%3, turn%2 == 0)), api.OK)
		}
		if got, e := m.Read(turn%3, addr, 0, 1000); string(got) != string(want) || e != api.OK {
			t.Fatalf("turn %d: %v, %d", turn, got, e)
		}
		want[turn*80] = byte(turn)
		tells(t, "Write", m.Write(turn%3, addr, turn*80, []byte{byte(turn)}), api.OK)
	}
}

// P20.4: what is answered is new memory: who writes into it, or behind its end, changes no machine and no other answer.
func TestAnswersAreNewMemory(t *testing.T) {
	m := made(t, line(2, 16, 0, 1), heap.Marks{Low: 12, High: 12})
	addr := touched(t, m, 0, 6)
	first := addr / 64
	spoil := func(list []migrate.Status) {
		list = list[:cap(list)]
		for i := range list {
			list[i] = migrate.Status{Page: -7, From: -7, To: -7, Err: -7}
		}
	}
	for range 2 {
		list, _ := migrate.Query(m, addr)
		other, _ := migrate.Query(m, addr)
		spoil(list)
		lists(t, "Query", other, went(first, 6, 0, 0))
	}
	for range 2 {
		list, _ := migrate.Object(m, addr, 0, false)
		other, _ := migrate.Object(m, addr, 0, false)
		spoil(list)
		lists(t, "Object", other, went(first, 6, 0, 0))
	}
	one := migrate.Tick(m, 1)
	two := migrate.Tick(m, 9)
	spoil(one)
	lists(t, "Tick", two, went(first+1, 1, 0, 1))
	queries(t, m, addr, append(went(first, 2, 1, 1), went(first+2, 4, 0, 0)...)...)
}
