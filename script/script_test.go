package script_test

import (
	"bytes"
	"fmt"
	"math"
	"slices"
	"strings"
	"testing"

	"messuage/alloc"
	"messuage/api"
	"messuage/heap"
	"messuage/policy"
	"messuage/script"
	"messuage/topo"
)

// odd are numbers at the ends of all that an int can be, and near to such limits as chapters name.
var odd = []int{
	-1, -2, -64, 1023, 1024, 1025, 4096, 65535, 65536, 262144, 1 << 32, 1<<32 + 1, math.MaxInt, math.MaxInt - 1, math.MinInt, math.MinInt + 1,
}

// kinds are all that there are.
var kinds = []int{
	script.Malloc, script.Free, script.Read, script.Write, script.Policy, script.MBind,
	script.Migrate, script.Query, script.Drain, script.Flush, script.Release, script.Tick,
}

// ofObjects are those that have an object.
var ofObjects = []int{script.Free, script.Read, script.Write, script.MBind, script.Migrate, script.Query}

// line is nodes side by side in a line: the farther apart two numbers are, the greater is the distance.
func line(nodes, each int, cpus ...int) topo.Topo {
	t := topo.Topo{Nodes: nodes, Frames: each, CPUs: cpus}
	for from := range nodes {
		var row []int
		for to := range nodes {
			row = append(row, 10+10*max(from-to, to-from))
		}
		t.Dist = append(t.Dist, row)
	}
	return t
}

func made(t *testing.T, shape topo.Topo, marks heap.Marks) *script.System {
	t.Helper()
	s, e := script.New(shape, marks)
	if s == nil || e != api.OK {
		t.Fatalf("New(%v, %v) = %v, %d", shape, marks, s, e)
	}
	return s
}

// pair is a system of two nodes, with a CPU on each.
func pair(t *testing.T) *script.System {
	t.Helper()
	return made(t, line(2, 16, 0, 1), heap.Marks{})
}

// does is a step, and what shall be told.
func does(t *testing.T, s *script.System, x script.Step, want script.Result) {
	t.Helper()
	got := s.Do(x)
	if got.Err != want.Err || got.N != want.N || !bytes.Equal(got.Bytes, want.Bytes) || !slices.Equal(got.Nodes, want.Nodes) {
		t.Errorf("Do(%v) = %v, not %v", x, got, want)
	}
}

// fails is a step that is refused.
func fails(t *testing.T, s *script.System, x script.Step, want api.Errno) {
	t.Helper()
	does(t, s, x, script.Result{Err: want})
}

func ok(t *testing.T, s *script.System, x script.Step) {
	t.Helper()
	does(t, s, x, script.Result{})
}

func mallocs(t *testing.T, s *script.System, cpu, n, name int) {
	t.Helper()
	does(t, s, script.Step{Kind: script.Malloc, CPU: cpu, N: n}, script.Result{N: name})
}

func reads(t *testing.T, s *script.System, obj, at int, want string) {
	t.Helper()
	does(t, s, script.Step{Kind: script.Read, Obj: obj, At: at, N: len(want)}, script.Result{Bytes: []byte(want)})
}

func writes(t *testing.T, s *script.System, cpu, obj, at int, text string) {
	t.Helper()
	ok(t, s, script.Step{Kind: script.Write, CPU: cpu, Obj: obj, At: at, Bytes: []byte(text)})
}

func frees(t *testing.T, s *script.System, cpu, obj int) {
	t.Helper()
	ok(t, s, script.Step{Kind: script.Free, CPU: cpu, Obj: obj})
}

func queries(t *testing.T, s *script.System, obj int, want ...int) {
	t.Helper()
	does(t, s, script.Step{Kind: script.Query, Obj: obj}, script.Result{Nodes: want})
}

// address is where an object was given.
func address(t *testing.T, s *script.System, obj int) int {
	t.Helper()
	addr, found := s.Address(obj)
	if addr <= 0 || !found {
		t.Errorf("Address(%d) = %d, %v", obj, addr, found)
	}
	return addr
}

// view is all that can be seen of a machine.
func view(m *alloc.Machine) string {
	var b strings.Builder
	shape := m.Topo()
	fmt.Fprint(&b, shape, m.Live(), m.Spans(), m.Pages(), m.Log().Events(), m.Heap().Marks())
	for _, addr := range m.Live() {
		size, e := m.Size(addr)
		fmt.Fprint(&b, " ", addr, size, e)
	}
	for page := range api.MaxPages {
		if frame, stands := m.Memory().Frame(page); stands {
			content, _ := m.Memory().Read(page*64, 64)
			fmt.Fprint(&b, " ", page, frame, content)
		}
		if p, has := m.Book().Of(page); has {
			fmt.Fprint(&b, " ", page, p)
		}
	}
	for node := range shape.Nodes {
		free, _ := m.Heap().Free(node)
		counts, _ := m.Log().Node(node)
		fmt.Fprint(&b, " ", free, counts)
	}
	for order := range 11 {
		fmt.Fprint(&b, " ", m.Heap().All(order))
	}
	return b.String()
}

func bindTo(nodes ...int) policy.Policy {
	p := policy.Policy{Mode: policy.Bind}
	for _, node := range nodes {
		p.Set |= 1 << node
	}
	return p
}

// P23.1: the document's example.
func TestExample(t *testing.T) {
	s := pair(t)
	mallocs(t, s, 0, 8, 0)
	writes(t, s, 0, 0, 0, "ab")
	reads(t, s, 0, 0, "ab")
}

// P23.1: New: alloc.New's machine, its errors, no object.
func TestNew(t *testing.T) {
	shape, marks := line(3, 8, 2, 0), heap.Marks{Min: 1, Low: 2, High: 3}
	s := made(t, shape, marks)
	m, e := alloc.New(shape, marks)
	if e != api.OK || view(s.Machine()) != view(m) {
		t.Errorf("the machine is %s", view(s.Machine()))
	}
	for _, obj := range append([]int{0, 1}, odd...) {
		if addr, found := s.Address(obj); addr != 0 || found {
			t.Errorf("Address(%d) = %d, %v", obj, addr, found)
		}
	}
	none, frames, cpu := shape, shape, shape
	none.Nodes = 0
	frames.Frames = 3
	cpu.CPUs = []int{3}
	for _, c := range []struct {
		shape topo.Topo
		marks heap.Marks
		want  api.Errno
	}{
		{topo.Topo{}, marks, api.ErrCount}, {none, marks, api.ErrCount}, {frames, marks, api.ErrCount}, {cpu, marks, api.ErrNode},
		{shape, heap.Marks{Min: -1}, api.ErrArg}, {shape, heap.Marks{Min: 2, Low: 1, High: 3}, api.ErrArg}, {shape, heap.Marks{High: 9}, api.ErrArg},
	} {
		if s, e := script.New(c.shape, c.marks); s != nil || e != c.want {
			t.Errorf("New(%v, %v) = %v, %d, not %d", c.shape, c.marks, s, e, c.want)
		}
	}
}

// P23.1, P1: a nil system, and one that New didn't make: ErrArg, nil, false, whatever is asked.
func TestNil(t *testing.T) {
	for _, s := range []*script.System{nil, {}} {
		for _, n := range append([]int{0, 1, 2}, odd...) {
			for _, kind := range append([]int{0, 13, n}, kinds...) {
				fails(t, s, script.Step{Kind: kind, CPU: n, Obj: n, At: n, N: n}, api.ErrArg)
				fails(t, s, script.Step{Kind: kind, Bytes: []byte("a"), Policy: bindTo(0), Told: true}, api.ErrArg)
			}
			if addr, found := s.Address(n); addr != 0 || found {
				t.Errorf("Address(%d) = %d, %v", n, addr, found)
			}
		}
		if s.Machine() != nil {
			t.Error("it has a machine")
		}
	}
}

// P23.1: of another Kind: ErrArg, ahead of all else, and nothing is done.
func TestNoSuchKind(t *testing.T) {
	s := pair(t)
	mallocs(t, s, 0, 100, 0)
	was := view(s.Machine())
	for _, kind := range append([]int{0, 13, 14, 16, 255, 256, 257, 258}, odd...) {
		fails(t, s, script.Step{Kind: kind, N: 8}, api.ErrArg)
		fails(t, s, script.Step{Kind: kind, Obj: 1, CPU: 9, N: -1}, api.ErrArg)
	}
	if now := view(s.Machine()); now != was {
		t.Errorf("%s, not %s", now, was)
	}
	mallocs(t, s, 0, 8, 1)
}

// P23.1: ErrMiss of a name that was never given, ahead of the call's error, of those Kinds that have an object.
func TestMiss(t *testing.T) {
	s := pair(t)
	for _, kind := range ofObjects {
		fails(t, s, script.Step{Kind: kind}, api.ErrMiss)
	}
	mallocs(t, s, 0, 100, 0)
	mallocs(t, s, 0, 8, 1)
	frees(t, s, 0, 1)
	was := view(s.Machine())
	for _, obj := range append([]int{2, 3, 100}, odd...) {
		for _, kind := range ofObjects {
			fails(t, s, script.Step{Kind: kind, Obj: obj}, api.ErrMiss)
			fails(t, s, script.Step{Kind: kind, Obj: obj, CPU: 2, At: -1, N: 9, Policy: policy.Policy{Mode: 7}}, api.ErrMiss)
		}
		if addr, found := s.Address(obj); addr != 0 || found {
			t.Errorf("Address(%d) = %d, %v", obj, addr, found)
		}
	}
	if now := view(s.Machine()); now != was {
		t.Errorf("%s, not %s", now, was)
	}
	// The others don't look at a name.
	mallocs(t, s, 0, 8, 2)
	for _, kind := range []int{script.Policy, script.Drain, script.Release, script.Tick} {
		ok(t, s, script.Step{Kind: kind, Obj: 99})
	}
}

// P23.1: objects are named by the Mallocs without an error, from 0 on, also when they aren't live any more.
func TestNames(t *testing.T) {
	s := pair(t)
	mallocs(t, s, 0, 8, 0)
	fails(t, s, script.Step{Kind: script.Malloc, CPU: 2, N: 8}, api.ErrCPU)
	fails(t, s, script.Step{Kind: script.Malloc, CPU: -1, N: 0}, api.ErrCPU)
	fails(t, s, script.Step{Kind: script.Malloc, N: 0}, api.ErrSize)
	fails(t, s, script.Step{Kind: script.Malloc, N: 1025}, api.ErrSize)
	mallocs(t, s, 1, 1024, 1)
	frees(t, s, 0, 0)
	mallocs(t, s, 0, 16, 2)
	frees(t, s, 0, 1)
	frees(t, s, 0, 2)
	mallocs(t, s, 0, 8, 3)
	for range 300 {
		s.Do(script.Step{Kind: script.Malloc, N: 1024})
	}
	// 255 objects of 16 pages have 4080; two pages are the spans', and one is nobody's.
	fails(t, s, script.Step{Kind: script.Malloc, N: 1024}, api.ErrNoMem)
	mallocs(t, s, 0, 100, 4+255)
}

// P23.1: where an object was given is told also when it isn't live any more, and when another one stands there.
func TestAddress(t *testing.T) {
	s := pair(t)
	for name, n := range []int{8, 100, 20, 1024, 64} {
		mallocs(t, s, 0, n, name)
		if live := s.Machine().Live(); !slices.Contains(live, address(t, s, name)) {
			t.Errorf("%d isn't one of %v", address(t, s, name), live)
		}
		if size, e := s.Machine().Size(address(t, s, name)); size != n || e != api.OK {
			t.Errorf("it has %d bytes (%d), not %d", size, e, n)
		}
	}
	was := []int{address(t, s, 0), address(t, s, 1)}
	frees(t, s, 0, 0)
	frees(t, s, 0, 1)
	mallocs(t, s, 0, 8, 5)
	mallocs(t, s, 0, 128, 6)
	for i := range 2 {
		if a, b := address(t, s, i), address(t, s, 5+i); a != was[i] || b != was[i] {
			t.Errorf("%d, %d, not %d", a, b, was[i])
		}
	}
}

// P23.1: an object that a Free of the script took back is at no address, also if another one stands in its place.
func TestAnotherInItsPlace(t *testing.T) {
	for _, n := range []int{8, 16, 32, 64, 65, 200, 1024} {
		s := pair(t)
		mallocs(t, s, 0, n, 0)
		writes(t, s, 0, 0, 0, "old")
		frees(t, s, 0, 0)
		for _, kind := range ofObjects {
			fails(t, s, script.Step{Kind: kind}, api.ErrBad)
		}
		mallocs(t, s, 0, n, 1)
		writes(t, s, 0, 1, 0, "new")
		if address(t, s, 0) != address(t, s, 1) {
			t.Errorf("%d bytes: they are at %d and %d", n, address(t, s, 0), address(t, s, 1))
		}
		was := view(s.Machine())
		for _, kind := range ofObjects {
			fails(t, s, script.Step{Kind: kind, N: 1, Bytes: []byte("x"), Policy: bindTo(1), Told: true}, api.ErrBad)
		}
		// Errors that a call names ahead of ErrBad come ahead of it, others don't.
		for _, kind := range []int{script.Free, script.Read, script.Write} {
			fails(t, s, script.Step{Kind: kind, CPU: 2, At: -1}, api.ErrCPU)
			fails(t, s, script.Step{Kind: kind, CPU: 1, At: -1, N: -1}, api.ErrBad)
		}
		fails(t, s, script.Step{Kind: script.MBind, CPU: 2, Policy: policy.Policy{Mode: 9}}, api.ErrBad)
		fails(t, s, script.Step{Kind: script.Migrate, CPU: 2, N: 2}, api.ErrBad)
		fails(t, s, script.Step{Kind: script.Query, CPU: 2}, api.ErrBad)
		if now := view(s.Machine()); now != was {
			t.Errorf("%d bytes: %s, not %s", n, now, was)
		}
		reads(t, s, 1, 0, "new")
		frees(t, s, 0, 1)
		fails(t, s, script.Step{Kind: script.Free, Obj: 1}, api.ErrBad)
	}
}

// P23.1: a Free with an error took nothing back.
func TestFreeThatIsRefused(t *testing.T) {
	s := pair(t)
	mallocs(t, s, 0, 100, 0)
	fails(t, s, script.Step{Kind: script.Free, CPU: 2}, api.ErrCPU)
	fails(t, s, script.Step{Kind: script.Free, CPU: -1}, api.ErrCPU)
	writes(t, s, 0, 0, 98, "ab")
	reads(t, s, 0, 98, "ab")
	frees(t, s, 0, 0)
	fails(t, s, script.Step{Kind: script.Free}, api.ErrBad)
}

// P23.1: an object that the script didn't take back is where Malloc gave it, whatever was told to the machine itself.
func TestMachineItself(t *testing.T) {
	s := pair(t)
	m := s.Machine()
	if m == nil || m != s.Machine() {
		t.Fatal("the machine isn't the same each time")
	}
	mallocs(t, s, 0, 100, 0)
	addr := address(t, s, 0)
	if e := m.Write(0, addr, 1, []byte("machine")); e != api.OK {
		t.Error(e)
	}
	reads(t, s, 0, 0, "\x00machine")
	if e := m.Free(0, addr); e != api.OK {
		t.Error(e)
	}
	fails(t, s, script.Step{Kind: script.Read}, api.ErrBad)
	fails(t, s, script.Step{Kind: script.Free}, api.ErrBad)
	if other, e := m.Malloc(0, 90); other != addr || e != api.OK {
		t.Fatalf("Malloc = %d, %d, not %d", other, e, addr)
	}
	writes(t, s, 0, 0, 80, "0123456789")
	fails(t, s, script.Step{Kind: script.Read, At: 81, N: 10}, api.ErrBound)
	// It has no name of the script.
	fails(t, s, script.Step{Kind: script.Read, Obj: 1}, api.ErrMiss)
	mallocs(t, s, 0, 8, 1)
	frees(t, s, 0, 0)
	fails(t, s, script.Step{Kind: script.Read}, api.ErrBad)
}

// P23.1: Read and Write, by the step's CPU.
func TestReadAndWrite(t *testing.T) {
	s := pair(t)
	mallocs(t, s, 0, 130, 0)
	mallocs(t, s, 0, 8, 1)
	reads(t, s, 0, 0, "")
	queries(t, s, 0, -1, -1, -1)
	writes(t, s, 1, 0, 127, "abc")
	queries(t, s, 0, -1, 1, 1)
	reads(t, s, 0, 120, "\x00\x00\x00\x00\x00\x00\x00abc")
	reads(t, s, 0, 60, strings.Repeat("\x00", 10))
	queries(t, s, 0, 0, 1, 1)
	writes(t, s, 0, 1, 0, "12345678")
	reads(t, s, 1, 7, "8")
	for _, kind := range []int{script.Read, script.Write} {
		fails(t, s, script.Step{Kind: kind, CPU: 2, Obj: 1, At: 9, N: 1}, api.ErrCPU)
		fails(t, s, script.Step{Kind: kind, Obj: 1, At: 8, N: 1, Bytes: []byte("a")}, api.ErrBound)
		fails(t, s, script.Step{Kind: kind, Obj: 1, At: -1, N: 1, Bytes: []byte("a")}, api.ErrBound)
	}
	fails(t, s, script.Step{Kind: script.Read, Obj: 1, N: 9}, api.ErrBound)
	fails(t, s, script.Step{Kind: script.Read, Obj: 1, N: -1}, api.ErrBound)
	for _, n := range odd {
		fails(t, s, script.Step{Kind: script.Read, Obj: 1, At: n, N: n}, api.ErrBound)
	}
	// A Write has as many bytes as it has, whatever N is.
	ok(t, s, script.Step{Kind: script.Write, Obj: 1, N: 99, Bytes: []byte("x")})
	reads(t, s, 1, 0, "x2345678")
}

// P23.1: policies of CPUs and of objects.
func TestPolicies(t *testing.T) {
	s := pair(t)
	ok(t, s, script.Step{Kind: script.Policy, CPU: 0, Policy: bindTo(1)})
	mallocs(t, s, 0, 200, 0)
	writes(t, s, 0, 0, 0, "a")
	queries(t, s, 0, 1, -1, -1, -1)
	ok(t, s, script.Step{Kind: script.MBind, Policy: bindTo(0)})
	writes(t, s, 1, 0, 64, "b")
	queries(t, s, 0, 1, 0, -1, -1)
	ok(t, s, script.Step{Kind: script.MBind, CPU: 99, Policy: policy.Policy{Mode: policy.Preferred, Node: 1}})
	writes(t, s, 0, 0, 128, "c")
	queries(t, s, 0, 1, 0, 1, -1)
	mallocs(t, s, 0, 8, 1)
	fails(t, s, script.Step{Kind: script.Policy, CPU: 2, Policy: bindTo(1)}, api.ErrCPU)
	fails(t, s, script.Step{Kind: script.Policy, Policy: bindTo()}, api.ErrArg)
	fails(t, s, script.Step{Kind: script.Policy, Policy: bindTo(2)}, api.ErrNode)
	fails(t, s, script.Step{Kind: script.MBind, Policy: policy.Policy{Mode: 4}}, api.ErrArg)
	fails(t, s, script.Step{Kind: script.MBind, Policy: policy.Policy{Mode: policy.Preferred, Node: 2}}, api.ErrNode)
	fails(t, s, script.Step{Kind: script.MBind, Obj: 1, Policy: bindTo()}, api.ErrHeld)
}

// P23.1: Migrate tells how many pages have Err 0, and the Err of each; Query tells the nodes.
func TestMigrateAndQuery(t *testing.T) {
	s := pair(t)
	mallocs(t, s, 0, 200, 0)
	mallocs(t, s, 1, 8, 1)
	queries(t, s, 0, -1, -1, -1, -1)
	queries(t, s, 1, 1)
	none, held, deny := int(api.ErrMap), int(api.ErrHeld), int(api.ErrDeny)
	does(t, s, script.Step{Kind: script.Migrate, N: 1}, script.Result{Nodes: []int{none, none, none, none}})
	writes(t, s, 0, 0, 60, "0123456789")
	writes(t, s, 1, 0, 199, "x")
	does(t, s, script.Step{Kind: script.Migrate, N: 1}, script.Result{N: 3, Nodes: []int{0, 0, none, 0}})
	queries(t, s, 0, 1, 1, -1, 1)
	ok(t, s, script.Step{Kind: script.MBind, Policy: bindTo(1)})
	does(t, s, script.Step{Kind: script.Migrate, CPU: 7}, script.Result{Nodes: []int{deny, deny, none, deny}})
	does(t, s, script.Step{Kind: script.Migrate, Told: true}, script.Result{N: 3, Nodes: []int{0, 0, none, 0}})
	queries(t, s, 0, 0, 0, -1, 0)
	does(t, s, script.Step{Kind: script.Migrate, Obj: 1, Told: true}, script.Result{Nodes: []int{held}})
	fails(t, s, script.Step{Kind: script.Migrate, N: 2}, api.ErrNode)
	fails(t, s, script.Step{Kind: script.Migrate, Obj: 1, N: -1}, api.ErrNode)
	reads(t, s, 0, 60, "0123456789")
	full := made(t, line(2, 2, 0, 1), heap.Marks{})
	mallocs(t, full, 0, 128, 0)
	mallocs(t, full, 1, 8, 1)
	writes(t, full, 0, 0, 63, "ab")
	does(t, full, script.Step{Kind: script.Migrate, N: 1}, script.Result{N: 1, Nodes: []int{0, int(api.ErrNoMem)}})
	queries(t, full, 0, 1, 0)
}

// P23.1: Drain, Flush and Release tell how many.
func TestDrainFlushRelease(t *testing.T) {
	s := pair(t)
	for name := range 6 {
		mallocs(t, s, 0, 8, name)
	}
	for name := range 3 {
		frees(t, s, 1, name)
	}
	frees(t, s, 0, 3)
	does(t, s, script.Step{Kind: script.Drain, N: 1, CPU: 9}, script.Result{})
	does(t, s, script.Step{Kind: script.Drain, CPU: 9}, script.Result{N: 3})
	does(t, s, script.Step{Kind: script.Drain}, script.Result{})
	does(t, s, script.Step{Kind: script.Release, CPU: 9, N: 9}, script.Result{})
	does(t, s, script.Step{Kind: script.Flush, CPU: 1, N: 9}, script.Result{})
	does(t, s, script.Step{Kind: script.Flush, N: 9}, script.Result{N: 3})
	frees(t, s, 0, 4)
	frees(t, s, 0, 5)
	does(t, s, script.Step{Kind: script.Flush}, script.Result{N: 2})
	does(t, s, script.Step{Kind: script.Release}, script.Result{N: 1})
	does(t, s, script.Step{Kind: script.Release}, script.Result{})
	for _, n := range append([]int{2, 8, 16}, odd...) {
		fails(t, s, script.Step{Kind: script.Drain, N: n}, api.ErrNode)
		fails(t, s, script.Step{Kind: script.Flush, CPU: n}, api.ErrCPU)
	}
}

// P23.1: Tick tells how many pages moved, no more than N.
func TestTick(t *testing.T) {
	s := made(t, line(2, 8, 0, 1), heap.Marks{Min: 0, Low: 4, High: 5})
	mallocs(t, s, 0, 8*64, 0)
	writes(t, s, 0, 0, 0, strings.Repeat("x", 8*64))
	for _, n := range []int{0, -1, math.MinInt} {
		does(t, s, script.Step{Kind: script.Tick, N: n}, script.Result{})
	}
	does(t, s, script.Step{Kind: script.Tick, N: 1}, script.Result{N: 1})
	queries(t, s, 0, 1, 0, 0, 0, 0, 0, 0, 0)
	does(t, s, script.Step{Kind: script.Tick, N: math.MaxInt}, script.Result{N: 2})
	queries(t, s, 0, 1, 1, 1, 0, 0, 0, 0, 0)
	does(t, s, script.Step{Kind: script.Tick, N: 9}, script.Result{})
	reads(t, s, 0, 0, strings.Repeat("x", 8*64))
}

// P23.3: what is handed in isn't kept or changed.
func TestArgumentsAreNotKept(t *testing.T) {
	shape := line(2, 16, 0, 1)
	s := made(t, shape, heap.Marks{})
	shape.CPUs[0], shape.Dist[0][1] = 1, 99
	mallocs(t, s, 0, 100, 0)
	text := []byte("abcd....")
	writeText := script.Step{Kind: script.Write, Bytes: text[:4]}
	ok(t, s, writeText)
	if string(text) != "abcd...." || string(writeText.Bytes) != "abcd" {
		t.Errorf("%q is changed", text)
	}
	copy(text, "XXXXXXXX")
	reads(t, s, 0, 0, "abcd\x00\x00")
	queries(t, s, 0, 0, -1)
}

// P23.3: answers are new memory.
func TestAnswersAreNewMemory(t *testing.T) {
	s := pair(t)
	mallocs(t, s, 0, 128, 0)
	writes(t, s, 0, 0, 0, strings.Repeat("a", 128))
	for _, x := range []script.Step{
		{Kind: script.Read, N: 100}, {Kind: script.Query}, {Kind: script.Migrate, N: 1}, {Kind: script.Migrate, N: 1},
	} {
		one, other := s.Do(x), s.Do(x)
		was, seen := fmt.Sprint(other), view(s.Machine())
		spoil(one.Bytes)
		spoil(one.Nodes)
		if fmt.Sprint(other) != was || view(s.Machine()) != seen || fmt.Sprint(s.Do(x)) != was {
			t.Errorf("%v: %v shares memory", x, other)
		}
	}
}

func spoil[T byte | int](list []T) {
	list = list[:cap(list)]
	for i := range list {
		list[i] = 77
	}
}
