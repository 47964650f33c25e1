package alloc_test

import (
	"math"
	"slices"
	"testing"

	"messuage/alloc"
	"messuage/api"
	"messuage/heap"
	"messuage/policy"
	"messuage/topo"
)

// odd are numbers at the ends of all that an int can be, and near to such limits as chapters name.
var odd = []int{
	0, 1, 63, 64, 65, 1023, 1024, 1025, 4095, 4096, 4097, 262143, 262144, 262145, -1, -2, -64, -4096, -262144,
	1 << 32, 1<<32 + 1, 1<<32 + 64, math.MaxInt, math.MaxInt - 1, math.MaxInt - 63, math.MinInt, math.MinInt + 1, math.MinInt + 64,
}

// noCPUs are numbers of no CPU of n.
func noCPUs(n int) []int {
	return []int{-1, -2, -n, n, n + 1, 16, 17, 255, 256, 1 << 32, 1<<32 + 1, math.MaxInt, math.MaxInt - 1, math.MinInt, math.MinInt + 1}
}

// noNodes are numbers of no node of n.
func noNodes(n int) []int {
	return []int{-1, -2, -n, n, n + 1, 8, 9, 255, 256, 1 << 32, 1<<32 + 1, math.MaxInt, math.MaxInt - 1, math.MinInt, math.MinInt + 1}
}

// noSizes are sizes of no object.
var noSizes = []int{0, -1, -2, -64, -1024, 1025, 1026, 2048, 65536, 1 << 32, 1<<32 + 8, math.MaxInt, math.MaxInt - 63, math.MinInt, math.MinInt + 1}

// wrongPolicy is one that none is on so many nodes, and what it is told.
type wrongPolicy struct {
	p    policy.Policy
	want api.Errno
}

func wrongPolicies(nodes int) []wrongPolicy {
	var list []wrongPolicy
	for _, mode := range []int{-1, 4, 5, 256, 257, 1<<32 + 1, math.MaxInt, math.MinInt} {
		list = append(list, wrongPolicy{policy.Policy{Mode: mode, Set: 1}, api.ErrArg})
	}
	for _, mode := range []int{policy.Bind, policy.Interleave} {
		list = append(list, wrongPolicy{policy.Policy{Mode: mode}, api.ErrArg})
		if nodes < 8 {
			list = append(list, wrongPolicy{policy.Policy{Mode: mode, Set: 1 << nodes}, api.ErrNode}, wrongPolicy{policy.Policy{Mode: mode, Set: 128 | 1}, api.ErrNode})
		}
	}
	for _, node := range noNodes(nodes) {
		if node < 0 || node >= nodes {
			list = append(list, wrongPolicy{policy.Policy{Mode: policy.Preferred, Set: 1, Node: node}, api.ErrNode})
		}
	}
	return list
}

// shaped is a machine of so many nodes, the distance of two of which is what far tells of how far their numbers are apart.
func shaped(nodes, each int, far func(apart int) int, cpus []int) topo.Topo {
	t := topo.Topo{Nodes: nodes, Frames: each, CPUs: cpus}
	for from := range nodes {
		var row []int
		for to := range nodes {
			row = append(row, 10+far(max(from-to, to-from)))
		}
		t.Dist = append(t.Dist, row)
	}
	return t
}

// line is nodes side by side in a line.
func line(nodes, each int, cpus ...int) topo.Topo {
	return shaped(nodes, each, func(apart int) int { return 10 * apart }, cpus)
}

// ring is nodes side by side in a ring, so that some are as near as others.
func ring(nodes, each int, cpus ...int) topo.Topo {
	return shaped(nodes, each, func(apart int) int { return 5 * min(apart, nodes-apart) }, cpus)
}

// back is nodes the last of which is the nearest one to all others, by number.
func back(nodes, each int, cpus ...int) topo.Topo {
	t := line(nodes, each, cpus...)
	for from := range nodes {
		for to := range nodes {
			if from != to {
				t.Dist[from][to] = 100 - from - to
			}
		}
	}
	return t
}

func bindTo(nodes ...int) policy.Policy {
	return ofNodes(policy.Bind, nodes)
}

func spread(nodes ...int) policy.Policy {
	return ofNodes(policy.Interleave, nodes)
}

func prefer(node int) policy.Policy {
	return policy.Policy{Mode: policy.Preferred, Node: node}
}

func ofNodes(mode int, nodes []int) policy.Policy {
	p := policy.Policy{Mode: mode}
	for _, node := range nodes {
		p.Set |= 1 << node
	}
	return p
}

func made(t *testing.T, shape topo.Topo, marks heap.Marks) *alloc.Machine {
	t.Helper()
	m, e := alloc.New(shape, marks)
	if m == nil || e != api.OK {
		t.Fatalf("New(%v, %v) = %v, %d", shape, marks, m, e)
	}
	return m
}

// plain is a machine without marks.
func plain(t *testing.T, shape topo.Topo) *alloc.Machine {
	t.Helper()
	return made(t, shape, heap.Marks{})
}

// mallocs has a CPU ask for objects of n bytes, one by one, which are at these addresses.
func mallocs(t *testing.T, m *alloc.Machine, cpu, n int, wants ...int) {
	t.Helper()
	for _, want := range wants {
		if addr, e := m.Malloc(cpu, n); addr != want || e != api.OK {
			t.Errorf("Malloc(%d, %d) = %d, %d, not %d", cpu, n, addr, e, want)
		}
	}
}

// malloc has a CPU ask for an object, wherever it is.
func malloc(t *testing.T, m *alloc.Machine, cpu, n int) int {
	t.Helper()
	addr, e := m.Malloc(cpu, n)
	if addr <= 0 || e != api.OK {
		t.Fatalf("Malloc(%d, %d) = %d, %d", cpu, n, addr, e)
	}
	return addr
}

func refusesMalloc(t *testing.T, m *alloc.Machine, cpu, n int, want api.Errno) {
	t.Helper()
	if addr, e := m.Malloc(cpu, n); addr != 0 || e != want {
		t.Errorf("Malloc(%d, %d) = %d, %d, not 0, %d", cpu, n, addr, e, want)
	}
}

func frees(t *testing.T, m *alloc.Machine, cpu int, addrs ...int) {
	t.Helper()
	for _, addr := range addrs {
		tells(t, "Free", m.Free(cpu, addr), api.OK, cpu, addr)
	}
}

func tells(t *testing.T, what string, got, want api.Errno, arguments ...int) {
	t.Helper()
	if got != want {
		t.Errorf("%s%v = %d, not %d", what, arguments, got, want)
	}
}

// tellsCount is of the calls that answer how many, or a node.
func tellsCount(t *testing.T, what string, ask func(int) (int, api.Errno), at, want int, wantErr api.Errno) {
	t.Helper()
	if n, e := ask(at); n != want || e != wantErr {
		t.Errorf("%s(%d) = %d, %d, not %d, %d", what, at, n, e, want, wantErr)
	}
}

func sets(t *testing.T, m *alloc.Machine, cpu int, p policy.Policy) {
	t.Helper()
	tells(t, "SetPolicy", m.SetPolicy(cpu, p), api.OK, cpu)
}

func binds(t *testing.T, m *alloc.Machine, addr int, p policy.Policy) {
	t.Helper()
	tells(t, "MBind", m.MBind(addr, p), api.OK, addr)
}

func hasFree(t *testing.T, m *alloc.Machine, wants ...int) {
	t.Helper()
	for node, want := range wants {
		tellsCount(t, "Free", m.Heap().Free, node, want, api.OK)
	}
}

// fills takes frames out of a node's heap till so many are left.
func fills(t *testing.T, m *alloc.Machine, node, left int) {
	t.Helper()
	for n, _ := m.Heap().Free(node); n > left; n-- {
		if _, e := m.Heap().Take(node, 0); e != api.OK {
			t.Fatalf("Take(%d, 0): %d", node, e)
		}
	}
}

// P19.1: the document's example.
func TestExample(t *testing.T) {
	m := plain(t, line(2, 16, 0, 1))
	a := malloc(t, m, 0, 8)
	tells(t, "Write", m.Write(0, a, 0, []byte("ab")), api.OK)
	reads(t, m, 0, a, 0, "ab")
	frees(t, m, 0, a)
	tells(t, "Free", m.Free(0, a), api.ErrBad, 0, a)
}

// P19.1: New: no object, no span, no event; all frames free; parts of the shape that was told.
func TestNew(t *testing.T) {
	for _, shape := range []topo.Topo{
		line(1, 1, 0), line(1, 1024, 0), line(2, 16, 0, 1), ring(5, 4, 4, 4, 0),
		line(8, 1024, 7, 6, 5, 4, 3, 2, 1, 0, 0, 1, 2, 3, 4, 5, 6, 7),
	} {
		marks := heap.Marks{Min: 0, Low: 1, High: 1}
		m := made(t, shape, marks)
		if len(m.Live()) != 0 || len(m.Spans()) != 0 || len(m.Pages()) != 0 {
			t.Errorf("%v: %v, %v, %v", shape, m.Live(), m.Spans(), m.Pages())
		}
		if m.Heap().Marks() != marks || !m.Heap().Whole() || len(m.Log().Events()) != 0 || m.Memory().Mapped() != 0 {
			t.Errorf("%v: the parts aren't new ones", shape)
		}
		if n := m.Memory().Store().Len(); n != shape.Nodes*shape.Frames {
			t.Errorf("%v: %d frames", shape, n)
		}
		for node := range shape.Nodes {
			hasFree(t, m, slices.Repeat([]int{shape.Frames}, shape.Nodes)...)
			tellsCount(t, "Drain", m.Drain, node, 0, api.OK)
			if _, e := m.Log().Node(node); e != api.OK || !m.Book().Ok(1, node) {
				t.Errorf("%v: node %d isn't in all parts", shape, node)
			}
		}
		for cpu := range shape.CPUs {
			tellsCount(t, "Flush", m.Flush, cpu, 0, api.OK)
		}
		if n := m.Release(); n != 0 {
			t.Errorf("Release() = %d", n)
		}
		tellsCount(t, "Drain", m.Drain, shape.Nodes, 0, api.ErrNode)
		tellsCount(t, "Flush", m.Flush, len(shape.CPUs), 0, api.ErrCPU)
		sound(t, m)
	}
}

// P19.1: topo.Check's errors, then heap.New's.
func TestNewRefuses(t *testing.T) {
	good := line(2, 16, 0, 1)
	shape := func(change func(*topo.Topo)) topo.Topo {
		x := line(2, 16, 0, 1)
		change(&x)
		return x
	}
	for i, c := range []struct {
		shape topo.Topo
		marks heap.Marks
		want  api.Errno
	}{
		{topo.Topo{}, heap.Marks{}, api.ErrCount},
		{shape(func(x *topo.Topo) { x.Nodes = 9 }), heap.Marks{}, api.ErrCount},
		{shape(func(x *topo.Topo) { x.Frames = 12 }), heap.Marks{}, api.ErrCount},
		{shape(func(x *topo.Topo) { x.Frames = 2048 }), heap.Marks{}, api.ErrCount},
		{shape(func(x *topo.Topo) { x.CPUs = nil }), heap.Marks{}, api.ErrCount},
		{shape(func(x *topo.Topo) { x.CPUs = make([]int, 17) }), heap.Marks{}, api.ErrCount},
		{shape(func(x *topo.Topo) { x.CPUs[1] = 2 }), heap.Marks{}, api.ErrNode},
		{shape(func(x *topo.Topo) { x.CPUs[0] = -1 }), heap.Marks{}, api.ErrNode},
		{shape(func(x *topo.Topo) { x.Dist[1][0] = 21 }), heap.Marks{}, api.ErrMatrix},
		{shape(func(x *topo.Topo) { x.Dist[0] = nil }), heap.Marks{}, api.ErrMatrix},
		{shape(func(x *topo.Topo) { x.Dist[1][1] = 11 }), heap.Marks{Min: -1}, api.ErrMatrix},
		{good, heap.Marks{Min: -1}, api.ErrArg},
		{good, heap.Marks{Min: 2, Low: 1, High: 3}, api.ErrArg},
		{good, heap.Marks{Min: 1, Low: 3, High: 2}, api.ErrArg},
		{good, heap.Marks{Min: 1, Low: 2, High: 17}, api.ErrArg},
		{good, heap.Marks{Min: math.MinInt, Low: 2, High: math.MaxInt}, api.ErrArg},
	} {
		if m, e := alloc.New(c.shape, c.marks); m != nil || e != c.want {
			t.Errorf("%d: New(%v, %v) = %v, %d, not %d", i, c.shape, c.marks, m, e, c.want)
		}
	}
	made(t, good, heap.Marks{Min: 16, Low: 16, High: 16})
}

// P19.7: what New was told isn't kept or changed: what is done to it later doesn't change the machine.
func TestShapeIsNotKept(t *testing.T) {
	shape, same := line(3, 16, 0, 1), line(3, 16, 0, 1)
	m := plain(t, shape)
	equalShapes(t, shape, same)
	shape.CPUs[0], shape.CPUs[1] = 2, 9
	shape.Dist[0][0], shape.Dist[1] = 99, nil
	equalShapes(t, m.Topo(), same)
	malloc(t, m, 0, 8)
	if got := m.Spans(); len(got) != 1 || got[0].Node != 0 {
		t.Errorf("Spans() = %v", got)
	}
}

// P19.7: Topo answers new memory.
func TestTopoIsNewMemory(t *testing.T) {
	want := line(3, 16, 0, 1)
	m := plain(t, want)
	one, other := m.Topo(), m.Topo()
	one.CPUs[0] = 2
	one.Dist[0][0], one.Dist[1][2] = 7, 7
	one.Dist[2] = nil
	equalShapes(t, other, want)
	equalShapes(t, m.Topo(), want)
}

func equalShapes(t *testing.T, got, want topo.Topo) {
	t.Helper()
	rows := slices.EqualFunc(got.Dist, want.Dist, func(a, b []int) bool { return slices.Equal(a, b) })
	if got.Nodes != want.Nodes || got.Frames != want.Frames || !slices.Equal(got.CPUs, want.CPUs) || !rows {
		t.Errorf("the shape is %v, not %v", got, want)
	}
}

// P19.1: the parts are the machine's own, each time the same.
func TestParts(t *testing.T) {
	m := plain(t, line(2, 16, 0, 1))
	other := plain(t, line(2, 16, 0, 1))
	if m.Heap() != m.Heap() || m.Memory() != m.Memory() || m.Log() != m.Log() || m.Book() != m.Book() {
		t.Error("a part isn't the same any more")
	}
	if m.Heap() == other.Heap() || m.Memory() == other.Memory() || m.Log() == other.Log() || m.Book() == other.Book() {
		t.Error("two machines share a part")
	}
	malloc(t, m, 1, 8)
	a := malloc(t, m, 0, 100)
	binds(t, m, a, bindTo(1))
	hasFree(t, m, 16, 15)
	hasFree(t, other, 16, 16)
	if p, has := m.Book().Of(a / 64); p != bindTo(1) || !has || m.Memory().Mapped() != 1 || len(m.Log().Events()) != 1 {
		t.Error("the parts don't know of it")
	}
	if _, has := other.Book().Of(a / 64); has || other.Memory().Mapped() != 0 || len(other.Log().Events()) != 0 {
		t.Error("the other machine knows of it")
	}
}

// P19.1, P1: a nil machine, and one that New didn't make: ErrArg, nothing, 0, nil, whatever is asked.
func TestNil(t *testing.T) {
	for _, m := range []*alloc.Machine{nil, {}} {
		for i, x := range odd {
			y := odd[(i+7)%len(odd)]
			refusesMalloc(t, m, x, y, api.ErrArg)
			refusesMalloc(t, m, 0, x, api.ErrArg)
			tells(t, "Free", m.Free(x, y), api.ErrArg, x, y)
			if b, e := m.Read(0, x, y, x); len(b) != 0 || e != api.ErrArg {
				t.Errorf("Read = %v, %d", b, e)
			}
			tells(t, "Write", m.Write(x, y, x, []byte("a")), api.ErrArg, x, y)
			tells(t, "Write", m.Write(x, y, x, nil), api.ErrArg, x, y)
			tells(t, "SetPolicy", m.SetPolicy(x, policy.Policy{Mode: y}), api.ErrArg, x)
			tells(t, "MBind", m.MBind(x, policy.Policy{Mode: y}), api.ErrArg, x)
			tells(t, "Move", m.Move(x, y, i%2 == 0), api.ErrArg, x, y)
			tellsCount(t, "Drain", m.Drain, x, 0, api.ErrArg)
			tellsCount(t, "Flush", m.Flush, x, 0, api.ErrArg)
			tellsCount(t, "Size", m.Size, x, 0, api.ErrArg)
			tellsCount(t, "Node", func(at int) (int, api.Errno) { return m.Node(x, at) }, y, 0, api.ErrArg)
		}
		if m.Release() != 0 || len(m.Live()) != 0 || len(m.Spans()) != 0 || len(m.Pages()) != 0 {
			t.Error("it has something")
		}
		equalShapes(t, m.Topo(), topo.Topo{})
		if m.Heap() != nil || m.Memory() != nil || m.Log() != nil || m.Book() != nil {
			t.Error("it has a part")
		}
	}
}

// busy is a machine with some of all things: live objects and free ones, spans of each class, a cache and a queue that
// aren't empty, pages on frames and on none, policies and cursors.
func busy(t *testing.T) *alloc.Machine {
	t.Helper()
	m := made(t, line(3, 32, 0, 2, 1), heap.Marks{Min: 1, Low: 2, High: 4})
	for _, n := range []int{8, 16, 32, 64, 64, 64} {
		for cpu := range 3 {
			tells(t, "Write", m.Write(cpu, malloc(t, m, cpu, n), 0, []byte("busy")), api.OK)
		}
	}
	frees(t, m, 0, m.Live()[2], m.Live()[0])
	frees(t, m, 1, m.Live()[2], m.Live()[0])
	a := malloc(t, m, 2, 1024)
	binds(t, m, a, bindTo(0, 2))
	sets(t, m, 2, spread(1, 2))
	tells(t, "Write", m.Write(2, a, 60, []byte("touched")), api.OK)
	tells(t, "Write", m.Write(2, malloc(t, m, 2, 65), 64, []byte{1}), api.OK)
	malloc(t, m, 0, 200)
	return m
}

// refusals are calls that are refused, of a busy machine that has objects at these addresses still: a small one, a bound
// one that is touched at 64, and a bare one of 200 bytes without a policy, none of it touched. None searches for frames.
func refusals(t *testing.T, m *alloc.Machine, small, bound, bare int) {
	t.Helper()
	for _, cpu := range noCPUs(3) {
		refusesMalloc(t, m, cpu, 8, api.ErrCPU)
		tells(t, "Free", m.Free(cpu, small), api.ErrCPU, cpu)
		refusesWrite(t, m, cpu, bare, 0, "x", api.ErrCPU)
		refusesRead(t, m, cpu, bare, 0, 1, api.ErrCPU)
		tells(t, "SetPolicy", m.SetPolicy(cpu, bindTo(1)), api.ErrCPU, cpu)
		tellsCount(t, "Flush", m.Flush, cpu, 0, api.ErrCPU)
	}
	for _, n := range noSizes {
		refusesMalloc(t, m, 1, n, api.ErrSize)
	}
	for _, addr := range append(slices.Clone(odd), small+1, small-1, bare+1, bare+64, bare-1) {
		if slices.Contains(m.Live(), addr) {
			continue
		}
		tells(t, "Free", m.Free(0, addr), api.ErrBad, addr)
		refusesWrite(t, m, 1, addr, 0, "x", api.ErrBad)
		refusesRead(t, m, 2, addr, 0, 1, api.ErrBad)
		tells(t, "MBind", m.MBind(addr, bindTo(0)), api.ErrBad, addr)
		tellsCount(t, "Size", m.Size, addr, 0, api.ErrBad)
		tellsCount(t, "Node", func(at int) (int, api.Errno) { return m.Node(addr, at) }, 0, 0, api.ErrBad)
	}
	tells(t, "MBind", m.MBind(small, bindTo(0)), api.ErrHeld, small)
	for _, w := range wrongPolicies(3) {
		tells(t, "SetPolicy", m.SetPolicy(0, w.p), w.want, 0)
		tells(t, "MBind", m.MBind(bare, w.p), w.want, bare)
	}
	for _, node := range noNodes(3) {
		tellsCount(t, "Drain", m.Drain, node, 0, api.ErrNode)
		tells(t, "Move", m.Move(bound/64+1, node, true), api.ErrNode, node)
	}
	tells(t, "Move", m.Move(bound/64+1, 1, false), api.ErrDeny)
	tells(t, "Move", m.Move(bare/64+3, 1, true), api.ErrMap)
	tells(t, "Move", m.Move(small/64, 1, true), api.ErrHeld)
	for _, at := range []int{200, 201, -1, math.MaxInt, math.MinInt} {
		refusesWrite(t, m, 0, bare, at, "x", api.ErrBound)
		refusesRead(t, m, 0, bare, at, 1, api.ErrBound)
		tellsCount(t, "Node", func(at int) (int, api.Errno) { return m.Node(bare, at) }, at, 0, api.ErrBound)
	}
}

// P19.1, rule 5: what is refused changes nothing: a machine to which calls were made that are refused goes on as one to which they weren't.
func TestRefusedChangesNothing(t *testing.T) {
	told, untold := busy(t), busy(t)
	kept := untold.Live()
	bound, bare := untold.Pages()[0]*64, kept[len(kept)-1]
	for round := range 60 {
		refusals(t, told, kept[0], bound, bare)
		for cpu := range 3 {
			n := []int{8, 30, 300, 64, 65, 16}[(round+cpu)%6]
			want, wantErr := untold.Malloc(cpu, n)
			if addr, e := told.Malloc(cpu, n); addr != want || e != wantErr {
				t.Errorf("Malloc(%d, %d) = %d, %d, not %d, %d", cpu, n, addr, e, want, wantErr)
			}
			other := (cpu + round) % 3
			tells(t, "Write", told.Write(other, want, 0, []byte("on")), untold.Write(other, want, 0, []byte("on")))
			addr := untold.Live()[(7*round)%len(kept)]
			if round%2 == 1 && addr != kept[0] && addr != bound && addr != bare {
				tells(t, "Free", told.Free(other, addr), untold.Free(other, addr))
			}
		}
		alike(t, told, untold)
	}
}

// alike tells whether two machines have the same objects, spans, frames, events and bytes.
func alike(t *testing.T, a, b *alloc.Machine) {
	t.Helper()
	same(t, "Live", a.Live(), b.Live())
	same(t, "Spans", a.Spans(), b.Spans())
	same(t, "Pages", a.Pages(), b.Pages())
	same(t, "Events", a.Log().Events(), b.Log().Events())
	for page := range 4096 {
		frame, stands := a.Memory().Frame(page)
		want, wanted := b.Memory().Frame(page)
		if frame != want || stands != wanted {
			t.Errorf("Frame(%d) = %d, %v, not %d, %v", page, frame, stands, want, wanted)
		}
		p, has := a.Book().Of(page)
		wantPolicy, wantHas := b.Book().Of(page)
		if p != wantPolicy || has != wantHas {
			t.Errorf("Of(%d) = %v, %v, not %v, %v", page, p, has, wantPolicy, wantHas)
		}
		if stands {
			got, _ := a.Memory().Read(page*64, 64)
			bytes, _ := b.Memory().Read(page*64, 64)
			same(t, "bytes", got, bytes)
		}
	}
}

// P1: whatever is asked, each call ends and none panics, and the machine stays sound.
func TestOddArguments(t *testing.T) {
	m := busy(t)
	for i, x := range odd {
		for j, y := range odd {
			z := odd[(i*5+j*3)%len(odd)]
			m.Malloc(x, y)
			m.Free(x, y)
			m.Read(x, y, z, x)
			m.Read(0, m.Live()[0], x, y)
			m.Write(0, m.Live()[len(m.Live())-1], x, make([]byte, max(0, min(y, 70000))))
			m.Write(x, y, z, nil)
			m.SetPolicy(x, policy.Policy{Mode: y, Set: 255, Node: z})
			m.MBind(x, policy.Policy{Mode: y, Set: 255, Node: z})
			m.Node(x, y)
			m.Node(m.Live()[0], x)
			m.Drain(x)
			m.Flush(y)
			m.Move(x, y, true)
			m.Move(x, y%3, false)
			m.Size(x)
			m.Release()
		}
	}
	sound(t, m)
}

// P1: parts are handed out, and may be told anything: no call panics then.
func TestPartsThatWereTold(t *testing.T) {
	for round := range 6 {
		m := busy(t)
		pages := m.Pages()
		switch round {
		case 0:
			for page := range 4096 {
				m.Memory().Unmap(page)
			}
		case 1:
			for frame := range 96 {
				for order := range 3 {
					m.Heap().Give(frame, order)
				}
			}
		case 2:
			*m.Heap(), *m.Memory(), *m.Log(), *m.Book() = *new(heap.Heap), *plain(t, line(1, 1, 0)).Memory(), *plain(t, line(1, 1, 0)).Log(), *plain(t, line(8, 1, 0)).Book()
		case 3:
			*m.Heap() = *plain(t, line(8, 1024, 0)).Heap()
		case 4:
			for frame := range 96 {
				m.Memory().Map(4095-frame, frame)
			}
		case 5:
			*m.Heap() = *plain(t, line(1, 1, 0)).Heap()
			m.Memory().Move(pages[0], 95)
		}
		for i, addr := range m.Live() {
			m.Write(i%3, addr, 0, []byte("x"))
			m.Read(i%3, addr, 0, 9)
			m.Node(addr, 0)
			m.MBind(addr, bindTo(1))
			m.Move(addr/64, i%3, true)
			m.Malloc(i%3, 8+31*i)
			m.Free(i%2, addr)
		}
		for _, page := range append(pages, 4095, 4000) {
			m.Move(page, 1, true)
		}
		for i := range 3 {
			m.Drain(i)
			m.Flush(i)
			m.Release()
			m.Malloc(i, 64)
		}
		m.Spans()
		m.Pages()
	}
}

// P19.1: SetPolicy: the errors, in their order; each policy of each CPU for itself.
func TestSetPolicy(t *testing.T) {
	m := plain(t, line(3, 16, 0, 1))
	for _, cpu := range noCPUs(2) {
		tells(t, "SetPolicy", m.SetPolicy(cpu, policy.Policy{Mode: 9}), api.ErrCPU, cpu)
	}
	for _, w := range wrongPolicies(3) {
		tells(t, "SetPolicy", m.SetPolicy(1, w.p), w.want, 1)
	}
	sets(t, m, 1, bindTo(2))
	for _, w := range wrongPolicies(3) {
		tells(t, "SetPolicy", m.SetPolicy(1, w.p), w.want, 1)
	}
	malloc(t, m, 1, 8)
	malloc(t, m, 0, 16)
	same(t, "Spans", m.Spans(), []alloc.Span{{Page: 1, Node: 2, Class: 0, Used: 4}, {Page: 2, Node: 0, Class: 1, Used: 4}})
	sets(t, m, 1, policy.Policy{Set: 255, Node: -1})
	malloc(t, m, 1, 32)
	same(t, "Spans", m.Spans()[2:], []alloc.Span{{Page: 3, Node: 1, Class: 2, Used: 4}})
}

// P19.1: Live, Size and Spans, of small objects and large ones: what is rising, and what a size is.
func TestLiveAndSize(t *testing.T) {
	m := plain(t, line(2, 64, 0, 1))
	want := map[int]int{}
	for _, n := range []int{5, 1024, 64, 1, 65, 33, 17, 9, 200, 8, 128} {
		want[malloc(t, m, len(want)%2, n)] = n
	}
	live := m.Live()
	if len(live) != len(want) || !slices.IsSorted(live) {
		t.Errorf("Live() = %v", live)
	}
	for addr, n := range want {
		tellsCount(t, "Size", m.Size, addr, n, api.OK)
		tellsCount(t, "Size", m.Size, addr+1, 0, api.ErrBad)
	}
	frees(t, m, 0, live[3])
	tellsCount(t, "Size", m.Size, live[3], 0, api.ErrBad)
	same(t, "Live", m.Live(), slices.Delete(slices.Clone(live), 3, 4))
}

// P19.7: the lists that are answered are new memory.
func TestListsAreNewMemory(t *testing.T) {
	m, other := busy(t), busy(t)
	live, spans, pages := m.Live(), m.Spans(), m.Pages()
	for _, list := range [][]int{m.Live(), m.Pages()} {
		list = list[:cap(list)]
		for i := range list {
			list[i] = -7
		}
	}
	for i, list := 0, m.Spans(); i < len(list); i++ {
		list[i] = alloc.Span{}
	}
	same(t, "Live", live, other.Live())
	same(t, "Spans", spans, other.Spans())
	same(t, "Pages", pages, other.Pages())
	alike(t, m, other)
	frees(t, m, 0, live...)
	empty(t, m)
	same(t, "Live", live, other.Live())
	same(t, "Spans", spans, other.Spans())
	same(t, "Pages", pages, other.Pages())
}

// Rule 5: machines are apart from each other, and the same steps tell the same.
func TestApart(t *testing.T) {
	one, other, third := busy(t), busy(t), busy(t)
	frees(t, one, 1, one.Live()...)
	empty(t, one)
	alike(t, other, third)
}

// P19.6: when all is freed, by whichever CPU, drained, flushed and released, all frames are free, and the next objects
// stand where the first ones of a new machine do.
func TestAllFree(t *testing.T) {
	for cpu := range 3 {
		m := busy(t)
		frees(t, m, cpu, m.Live()...)
		empty(t, m)
		sets(t, m, 2, policy.Policy{})
		for node := range 3 {
			for order := range 6 {
				if may := m.Heap().May(node, order); may != (order < 5) {
					t.Errorf("May(%d, %d) = %v", node, order, may)
				}
			}
		}
		mallocs(t, m, 0, 1024, 64)
		mallocs(t, m, 1, 8, 17*64)
	}
}
