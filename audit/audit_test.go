package audit_test

import (
	"fmt"
	"slices"
	"testing"

	"messuage/alloc"
	"messuage/api"
	"messuage/audit"
	"messuage/heap"
	"messuage/nodeset"
	"messuage/policy"
	"messuage/topo"
)

// orders are those of the spans of each class, by their chapter.
var orders = []int{0, 0, 1, 2}

// line is nodes side by side in a line.
func line(nodes, each int, cpus ...int) topo.Topo {
	t := topo.Topo{Nodes: nodes, Frames: each, CPUs: cpus}
	for from := range nodes {
		var row []int
		for to := range nodes {
			row = append(row, 10+10*max(from-to, to-from))
		}
		t.Dist = append(t.Dist, row)
	}
	return t
}

func bindTo(nodes ...int) policy.Policy {
	set, _ := nodeset.Of(nodes)
	return policy.Policy{Mode: policy.Bind, Set: set}
}

// local is a machine each CPU of which gets frames of its own node only.
func local(t *testing.T, nodes, each int, marks heap.Marks) *alloc.Machine {
	t.Helper()
	var cpus []int
	for node := range nodes {
		cpus = append(cpus, node)
	}
	m, e := alloc.New(line(nodes, each, cpus...), marks)
	if m == nil || e != api.OK {
		t.Fatalf("New = %v, %d", m, e)
	}
	for node := range nodes {
		tells(t, "SetPolicy", m.SetPolicy(node, bindTo(node)), api.OK, node)
	}
	return m
}

func malloc(t *testing.T, m *alloc.Machine, cpu, n int) int {
	t.Helper()
	addr, e := m.Malloc(cpu, n)
	if addr <= 0 || e != api.OK {
		t.Fatalf("Malloc(%d, %d) = %d, %d", cpu, n, addr, e)
	}
	return addr
}

// touched is a large object of so many pages, of which those that are named come to frames.
func touched(t *testing.T, m *alloc.Machine, cpu, pages int, which ...int) int {
	t.Helper()
	addr := malloc(t, m, cpu, 64*pages)
	for _, page := range which {
		tells(t, "Write", m.Write(cpu, addr, 64*page, []byte{1}), api.OK, cpu, addr, page)
	}
	return addr
}

func tells(t *testing.T, what string, got, want api.Errno, arguments ...int) {
	t.Helper()
	if got != want {
		t.Errorf("%s%v = %d, not %d", what, arguments, got, want)
	}
}

func sums(t *testing.T, m *alloc.Machine, want ...audit.Sums) {
	t.Helper()
	if got := audit.Nodes(m); !slices.Equal(got, want) {
		t.Errorf("Nodes: %v, not %v", got, want)
	}
}

func sound(t *testing.T, m *alloc.Machine, want bool) {
	t.Helper()
	if got := audit.Sound(m); got != want {
		t.Errorf("Sound: %v of %v", got, audit.Nodes(m))
	}
}

func idle(t *testing.T, m *alloc.Machine, want bool) {
	t.Helper()
	if got := audit.Idle(m); got != want {
		t.Errorf("Idle: %v of %v, %v", got, m.Live(), audit.Nodes(m))
	}
}

func strays(t *testing.T, m *alloc.Machine, want ...int) {
	t.Helper()
	if got := audit.Strays(m); !slices.Equal(got, want) {
		t.Errorf("Strays: %v, not %v", got, want)
	}
}

// settle drains all queues, flushes all caches, and releases.
func settle(m *alloc.Machine) {
	shape := m.Topo()
	for node := range shape.Nodes {
		m.Drain(node)
	}
	for cpu := range shape.CPUs {
		m.Flush(cpu)
	}
	m.Release()
}

// view is all that can be seen of a machine.
func view(m *alloc.Machine) string {
	s := fmt.Sprint(m.Live(), m.Spans(), m.Pages(), m.Log().Events(), m.Memory().Mapped())
	for _, addr := range m.Live() {
		n, _ := m.Size(addr)
		s += fmt.Sprint(" ", n)
	}
	for page := range api.MaxPages {
		if frame, stands := m.Memory().Frame(page); stands {
			b, _ := m.Memory().Read(page*64, 64)
			s += fmt.Sprint("\n", page, " on ", frame, ": ", b)
		}
		if p, has := m.Book().Of(page); has {
			s += fmt.Sprint("\n", page, ": ", p)
		}
	}
	for node := range m.Topo().Nodes {
		n, _ := m.Heap().Free(node)
		s += fmt.Sprint("\n", n, " free")
	}
	for order := range api.MaxOrder + 1 {
		s += fmt.Sprint(m.Heap().All(order))
	}
	return s
}

// P21.1: the document's example.
func TestExample(t *testing.T) {
	m := local(t, 1, 4, heap.Marks{})
	sums(t, m, audit.Sums{Free: 4, All: 4})
	sound(t, m, true)
	idle(t, m, true)
	strays(t, m)
}

// P21.1: new machines: all frames are free, whatever the marks.
func TestNew(t *testing.T) {
	for nodes := 1; nodes <= 8; nodes++ {
		for each := 1; each <= 1024; each *= 2 {
			for _, marks := range []heap.Marks{{}, {Min: each, Low: each, High: each}, {Low: 1, High: each}} {
				m := local(t, nodes, each, marks)
				sums(t, m, slices.Repeat([]audit.Sums{{Free: each, All: each}}, nodes)...)
				sound(t, m, true)
				idle(t, m, true)
				strays(t, m)
			}
		}
	}
}

// P21.1, P1: a nil machine, and one that New didn't make, isn't sound and isn't idle, and has no node and no stray.
func TestNil(t *testing.T) {
	for _, m := range []*alloc.Machine{nil, {}} {
		sums(t, m)
		sound(t, m, false)
		idle(t, m, false)
		strays(t, m)
	}
}

// P21.1: Nodes: frames of spans of each class, on each node: as many as a span's run has, whether its objects are live, cached, queued or given back.
func TestSpans(t *testing.T) {
	for node := range 3 {
		for c, n := range []int{8, 16, 32, 64} {
			m := local(t, 3, 16, heap.Marks{})
			want := slices.Repeat([]audit.Sums{{Free: 16, All: 16}}, 3)
			run := 1 << orders[c]
			a := malloc(t, m, node, n)
			want[node] = audit.Sums{Free: 16 - run, Spans: run, All: 16}
			sums(t, m, want...)
			tells(t, "Free", m.Free(node, a), api.OK)
			sums(t, m, want...)
			b := malloc(t, m, node, n)
			tells(t, "Free", m.Free((node+1)%3, b), api.OK)
			sums(t, m, want...)
			m.Drain(node)
			m.Flush(node)
			sums(t, m, want...)
			sound(t, m, true)
			m.Release()
			want[node] = audit.Sums{Free: 16, All: 16}
			sums(t, m, want...)
		}
	}
}

// P21.1: Nodes: frames of pages of large objects on the node on which they stand; pages on no frame have none.
func TestPages(t *testing.T) {
	m := local(t, 3, 16, heap.Marks{})
	a := touched(t, m, 0, 16)
	sums(t, m, audit.Sums{Free: 16, All: 16}, audit.Sums{Free: 16, All: 16}, audit.Sums{Free: 16, All: 16})
	b := touched(t, m, 0, 16, 0, 1, 3, 15)
	touched(t, m, 2, 2, 1)
	sums(t, m, audit.Sums{Free: 12, Pages: 4, All: 16}, audit.Sums{Free: 16, All: 16}, audit.Sums{Free: 15, Pages: 1, All: 16})
	tells(t, "Move", m.Move(b/64+3, 2, true), api.OK)
	tells(t, "Move", m.Move(b/64+15, 1, true), api.OK)
	sums(t, m, audit.Sums{Free: 14, Pages: 2, All: 16}, audit.Sums{Free: 15, Pages: 1, All: 16}, audit.Sums{Free: 14, Pages: 2, All: 16})
	sound(t, m, true)
	tells(t, "Free", m.Free(1, b), api.OK)
	tells(t, "Free", m.Free(1, a), api.OK)
	sums(t, m, audit.Sums{Free: 16, All: 16}, audit.Sums{Free: 16, All: 16}, audit.Sums{Free: 15, Pages: 1, All: 16})
}

// P21.1: Nodes: spans and pages beside each other, on a node that is full, too.
func TestSpansAndPages(t *testing.T) {
	m := local(t, 2, 8, heap.Marks{})
	malloc(t, m, 0, 8)
	malloc(t, m, 0, 16)
	malloc(t, m, 0, 32)
	malloc(t, m, 1, 64)
	touched(t, m, 0, 4, 0, 1, 2, 3)
	touched(t, m, 1, 3, 1)
	sums(t, m, audit.Sums{Spans: 4, Pages: 4, All: 8}, audit.Sums{Free: 3, Spans: 4, Pages: 1, All: 8})
	sound(t, m, true)
}

// P21.1: Sound: each node by itself is looked at, the first one and the last one among them; frames that are missing, and such as are counted twice.
func TestUnsound(t *testing.T) {
	for node := range 3 {
		m := local(t, 3, 8, heap.Marks{})
		malloc(t, m, node, 8)
		page := touched(t, m, node, 2, 0) / 64
		frame, e := m.Heap().Take(node, 0)
		tells(t, "Take", e, api.OK, node)
		sound(t, m, false)
		tells(t, "Give", m.Heap().Give(frame, 0), api.OK, frame)
		sound(t, m, true)
		// The page's frame is told to be free while the page stands there.
		stands, _ := m.Memory().Frame(page)
		tells(t, "Give", m.Heap().Give(stands, 0), api.OK, stands)
		sound(t, m, false)
		// What another node has too few doesn't make up for it.
		m.Heap().Take((node+1)%3, 0)
		sound(t, m, false)
	}
}

// P21.1: Idle: a live object, also one without a frame; a span without a live object; a frame that isn't free: each alone keeps a machine from it.
func TestIdle(t *testing.T) {
	for node := range 3 {
		m := local(t, 3, 8, heap.Marks{})
		large := touched(t, m, node, 2)
		idle(t, m, false)
		tells(t, "Free", m.Free(0, large), api.OK)
		idle(t, m, true)
		large = touched(t, m, node, 2, 1)
		idle(t, m, false)
		tells(t, "Free", m.Free(0, large), api.OK)
		idle(t, m, true)
		small := malloc(t, m, node, 8)
		idle(t, m, false)
		tells(t, "Free", m.Free(node, small), api.OK)
		idle(t, m, false)
		m.Flush(node)
		idle(t, m, false)
		m.Release()
		idle(t, m, true)
		frame, e := m.Heap().Take(node, 0)
		tells(t, "Take", e, api.OK, node)
		idle(t, m, false)
		tells(t, "Give", m.Heap().Give(frame, 0), api.OK, frame)
		idle(t, m, true)
		// A policy of a CPU is no object.
		tells(t, "SetPolicy", m.SetPolicy(node, bindTo(0, 1)), api.OK)
		idle(t, m, true)
	}
}

// P21.1: Idle: a span is there whose frames the heap has as free ones: still it is there.
func TestIdleOfASpanAlone(t *testing.T) {
	m := local(t, 2, 8, heap.Marks{})
	small := malloc(t, m, 1, 8)
	tells(t, "Free", m.Free(1, small), api.OK)
	frame, _ := m.Memory().Frame(small / 64)
	tells(t, "Give", m.Heap().Give(frame, 0), api.OK, frame)
	if !m.Heap().Whole() || len(m.Live()) != 0 {
		t.Fatal("more than the span is there")
	}
	idle(t, m, false)
}

// P21.1: Strays: of all Binds those that haven't the page's node; other policies that name other nodes, and pages on no frame, are none.
func TestStrays(t *testing.T) {
	for node := range 3 {
		for set := nodeset.Set(1); set < 8; set++ {
			for mode := range 4 {
				m := local(t, 3, 16, heap.Marks{})
				touched(t, m, node, 2, 0, 1)
				addr := touched(t, m, node, 5, 0, 2, 4)
				strays(t, m)
				p := policy.Policy{Mode: mode, Set: set, Node: (node + 1) % 3}
				tells(t, "MBind", m.MBind(addr, p), api.OK, addr)
				if mode == policy.Bind && set>>node&1 == 0 {
					strays(t, m, addr/64, addr/64+2, addr/64+4)
				} else {
					strays(t, m)
				}
				sound(t, m, true)
			}
		}
	}
}

// P21.1, P4: strays come by moves that were told and by new policies, and go by moves home, by new policies and when their object is freed.
func TestStraysComeAndGo(t *testing.T) {
	m := local(t, 3, 16, heap.Marks{})
	addr := touched(t, m, 0, 4)
	page := addr / 64
	tells(t, "MBind", m.MBind(addr, bindTo(0, 2)), api.OK)
	for i := range 4 {
		tells(t, "Write", m.Write(1, addr, 64*i, []byte{1}), api.OK)
	}
	strays(t, m)
	tells(t, "Move", m.Move(page+1, 1, false), api.ErrDeny)
	strays(t, m)
	tells(t, "Move", m.Move(page+2, 1, true), api.OK)
	tells(t, "Move", m.Move(page+1, 1, true), api.OK)
	tells(t, "Move", m.Move(page, 0, false), api.OK)
	strays(t, m, page+1, page+2)
	tells(t, "Move", m.Move(page+1, 0, false), api.OK)
	strays(t, m, page+2)
	tells(t, "MBind", m.MBind(addr, bindTo(1)), api.OK)
	strays(t, m, page, page+1, page+3)
	tells(t, "MBind", m.MBind(addr, policy.Policy{}), api.OK)
	strays(t, m)
	tells(t, "MBind", m.MBind(addr, bindTo(1)), api.OK)
	tells(t, "Free", m.Free(0, addr), api.OK)
	strays(t, m)
}

// P21.1: strays rise by page, in whichever order objects, pages and policies came; pages of spans are none, also if they have a Bind.
func TestStraysRise(t *testing.T) {
	m := local(t, 2, 64, heap.Marks{})
	first := touched(t, m, 0, 3)
	second := touched(t, m, 1, 3, 2, 0)
	third := touched(t, m, 0, 3, 2, 1, 0)
	small := malloc(t, m, 0, 64)
	tells(t, "Free", m.Free(0, first), api.OK)
	first = touched(t, m, 1, 2, 1, 0)
	tells(t, "MBind", m.MBind(third, bindTo(1)), api.OK)
	tells(t, "MBind", m.MBind(first, bindTo(0)), api.OK)
	tells(t, "MBind", m.MBind(second, bindTo(0)), api.OK)
	tells(t, "Set", m.Book().Set(small/64, 4, bindTo(1)), api.OK)
	strays(t, m, first/64, first/64+1, second/64, second/64+2, third/64, third/64+1, third/64+2)
}

// P21.1: looking changes nothing: not what can be seen, and not what later calls answer.
func TestLookingChangesNothing(t *testing.T) {
	build := func() *alloc.Machine { return local(t, 3, 16, heap.Marks{Min: 1, Low: 4, High: 6}) }
	asked, other := build(), build()
	look := func() {
		before := view(asked)
		audit.Nodes(asked)
		audit.Sound(asked)
		audit.Idle(asked)
		audit.Strays(asked)
		if after := view(asked); after != before {
			t.Fatalf("%s\nnot %s", after, before)
		}
	}
	seed := uint32(7)
	for range 400 {
		look()
		seed = seed*1664525 + 1013904223
		a, b := steps(asked, seed>>8), steps(other, seed>>8)
		if a != b || view(asked) != view(other) {
			t.Fatalf("%s, not %s", a, b)
		}
	}
}

// steps does some step that the number tells: what it answered.
func steps(m *alloc.Machine, x uint32) string {
	cpu, node := int(x%3), int(x/3%3)
	addr := 64
	if live := m.Live(); len(live) > 0 {
		addr = live[int(x/9)%len(live)]
	}
	switch x / 1024 % 12 {
	case 0, 1, 2:
		return fmt.Sprint(m.Malloc(cpu, 1+int(x/9%64)))
	case 3:
		return fmt.Sprint(m.Malloc(cpu, 65+int(x/9%400)))
	case 4, 5:
		return fmt.Sprint(m.Free(cpu, addr))
	case 6, 7:
		n, _ := m.Size(addr)
		return fmt.Sprint(m.Write(cpu, addr, 0, slices.Repeat([]byte{byte(x)}, n)))
	case 8:
		return fmt.Sprint(m.MBind(addr, bindTo(node)))
	case 9:
		return fmt.Sprint(m.Move(addr/64+int(x/9%3), node, x%2 == 0))
	case 10:
		return fmt.Sprint(m.SetPolicy(cpu, policy.Policy{Mode: int(x / 9 % 4), Set: nodeset.Set(1 + x/9%7), Node: node}))
	}
	n, e := m.Drain(node)
	k, f := m.Flush(cpu)
	return fmt.Sprint(n, e, k, f, m.Release())
}

// P21.2, P6: a machine is sound behind each of many calls, its sums are those that a look at each frame tells, and it is idle when all is given back.
func TestManySteps(t *testing.T) {
	for i, marks := range []heap.Marks{{}, {Min: 1, Low: 2, High: 4}, {Min: 8, Low: 8, High: 8}, {Low: 16, High: 16}} {
		m := local(t, 3, 16, marks)
		seed := uint32(i)
		for range 1500 {
			seed = seed*1664525 + 1013904223
			steps(m, seed>>8)
			sound(t, m, true)
			byFrames(t, m)
		}
		for _, addr := range m.Live() {
			tells(t, "Free", m.Free(addr%3, addr), api.OK, addr)
		}
		settle(m)
		idle(t, m, true)
		sums(t, m, slices.Repeat([]audit.Sums{{Free: 16, All: 16}}, 3)...)
	}
}

// byFrames looks whether the sums and the strays are those that the frames tell, one by one.
func byFrames(t *testing.T, m *alloc.Machine) {
	t.Helper()
	shape := m.Topo()
	held := map[int]bool{}
	for _, s := range m.Spans() {
		for i := range 1 << orders[s.Class] {
			held[s.Page+i] = true
		}
	}
	want := make([]audit.Sums, shape.Nodes)
	var away []int
	for frame := range shape.Nodes * shape.Frames {
		node := frame / shape.Frames
		want[node].All++
		page, stands := m.Memory().Page(frame)
		switch {
		case !stands:
			want[node].Free++
		case held[page]:
			want[node].Spans++
		default:
			want[node].Pages++
			if p, has := m.Book().Of(page); has && p.Mode == policy.Bind && p.Set>>node&1 == 0 {
				away = append(away, page)
			}
		}
	}
	slices.Sort(away)
	sums(t, m, want...)
	strays(t, m, away...)
}

// P21.3: what is answered is new memory: who writes into it changes no machine and no other answer.
func TestAnswersAreNewMemory(t *testing.T) {
	m := local(t, 2, 8, heap.Marks{})
	addr := touched(t, m, 0, 3, 0, 1, 2)
	tells(t, "MBind", m.MBind(addr, bindTo(1)), api.OK)
	before := view(m)
	for range 2 {
		nodes, others := audit.Nodes(m), audit.Nodes(m)
		nodes = nodes[:cap(nodes)]
		for i := range nodes {
			nodes[i] = audit.Sums{Free: -1, Spans: -1, Pages: -1, All: -1}
		}
		if want := []audit.Sums{{Free: 5, Pages: 3, All: 8}, {Free: 8, All: 8}}; !slices.Equal(others, want) {
			t.Errorf("Nodes: %v, not %v", others, want)
		}
		list, other := audit.Strays(m), audit.Strays(m)
		list = list[:cap(list)]
		for i := range list {
			list[i] = -1
		}
		if want := []int{addr / 64, addr/64 + 1, addr/64 + 2}; !slices.Equal(other, want) {
			t.Errorf("Strays: %v, not %v", other, want)
		}
	}
	if view(m) != before {
		t.Error("the machine is another one")
	}
}
