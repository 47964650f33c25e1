package calm_test

import (
	"fmt"
	"math"
	"slices"
	"strings"
	"testing"

	"messuage/alloc"
	"messuage/api"
	"messuage/audit"
	"messuage/calm"
	"messuage/heap"
	"messuage/migrate"
	"messuage/policy"
	"messuage/topo"
)

// odd are numbers at the ends of all that an int can be, and near to such limits as chapters name.
var odd = []int{-1, -2, -8, 8, 9, 255, 1024, 4096, 4097, 1 << 32, 1<<32 + 1, math.MaxInt, math.MaxInt - 1, math.MinInt, math.MinInt + 1}

// line is nodes side by side in a line: the farther apart two numbers are, the greater is the distance.
func line(nodes, each int, cpus ...int) topo.Topo {
	t := topo.Topo{Nodes: nodes, Frames: each, CPUs: cpus}
	for from := range nodes {
		var row []int
		for to := range nodes {
			row = append(row, 10+10*max(from-to, to-from))
		}
		t.Dist = append(t.Dist, row)
	}
	return t
}

func bindTo(nodes ...int) policy.Policy {
	p := policy.Policy{Mode: policy.Bind}
	for _, node := range nodes {
		p.Set |= 1 << node
	}
	return p
}

func made(t *testing.T, shape topo.Topo, marks heap.Marks) *alloc.Machine {
	t.Helper()
	m, e := alloc.New(shape, marks)
	if m == nil || e != api.OK {
		t.Fatalf("New(%v, %v) = %v, %d", shape, marks, m, e)
	}
	return m
}

// touched is an object of so many pages, all of which stand on frames: each has a byte that others don't have.
func touched(t *testing.T, m *alloc.Machine, cpu, pages int) int {
	t.Helper()
	addr, e := m.Malloc(cpu, pages*64)
	if e != api.OK {
		t.Fatalf("Malloc(%d, %d): %d", cpu, pages*64, e)
	}
	for page := range pages {
		tells(t, "Write", m.Write(cpu, addr, 64*page+page, []byte{byte(1 + addr/64 + page)}), api.OK, cpu, addr, page)
	}
	return addr
}

func tells(t *testing.T, what string, got, want api.Errno, arguments ...int) {
	t.Helper()
	if got != want {
		t.Errorf("%s%v = %d, not %d", what, arguments, got, want)
	}
}

// leaves takes frames out of a node's heap till so many are free.
func leaves(t *testing.T, m *alloc.Machine, node, free int) {
	t.Helper()
	for n, _ := m.Heap().Free(node); n > free; n-- {
		if _, e := m.Heap().Take(node, 0); e != api.OK {
			t.Fatalf("Take(%d, 0): %d", node, e)
		}
	}
}

// calms compares how many rounds there were, how many pages moved, and whether it is calm then.
func calms(t *testing.T, m *alloc.Machine, most, rounds, wantRounds, wantMoved int, want bool) {
	t.Helper()
	if n, moved, ok := calm.Calm(m, most, rounds); n != wantRounds || moved != wantMoved || ok != want {
		t.Errorf("Calm(%d, %d) = %d, %d, %v, not %d, %d, %v", most, rounds, n, moved, ok, wantRounds, wantMoved, want)
	}
}

// looks compares the nodes that are poor, those that are rich, and the need.
func looks(t *testing.T, m *alloc.Machine, poor, rich []int, need int) {
	t.Helper()
	if got := calm.Poor(m); !slices.Equal(got, poor) {
		t.Errorf("Poor() = %v, not %v", got, poor)
	}
	if got := calm.Rich(m); !slices.Equal(got, rich) {
		t.Errorf("Rich() = %v, not %v", got, rich)
	}
	if got := calm.Need(m); got != need {
		t.Errorf("Need() = %d, not %d", got, need)
	}
}

// content is what can be read of a machine, wherever it stands: its objects, and the bytes of its pages.
func content(m *alloc.Machine) string {
	var b strings.Builder
	fmt.Fprint(&b, m.Topo(), m.Live(), m.Spans(), m.Pages(), m.Log().Events(), m.Heap().Marks())
	for _, addr := range m.Live() {
		size, e := m.Size(addr)
		fmt.Fprint(&b, " ", addr, size, e)
	}
	for page := range api.MaxPages {
		if _, stands := m.Memory().Frame(page); stands {
			bytes, _ := m.Memory().Read(page*64, 64)
			fmt.Fprint(&b, " ", page, bytes)
		}
		if p, has := m.Book().Of(page); has {
			fmt.Fprint(&b, " ", page, p)
		}
	}
	return b.String()
}

// places is where its pages stand, and what is free.
func places(m *alloc.Machine) string {
	var b strings.Builder
	for page := range api.MaxPages {
		if frame, stands := m.Memory().Frame(page); stands {
			fmt.Fprint(&b, " ", page, ":", frame)
		}
	}
	for node := range m.Topo().Nodes {
		free, _ := m.Heap().Free(node)
		counts, _ := m.Log().Node(node)
		fmt.Fprint(&b, " ", free, counts)
	}
	for order := range 11 {
		fmt.Fprint(&b, " ", m.Heap().All(order))
	}
	return b.String()
}

// all is the nodes 0 to n - 1.
func all(n int) []int {
	var nodes []int
	for node := range n {
		nodes = append(nodes, node)
	}
	return nodes
}

// P31.1: the document's example, of one node and more, and with any marks: one round, no move, calm.
func TestNew(t *testing.T) {
	for nodes := 1; nodes <= 8; nodes++ {
		for _, marks := range []heap.Marks{{}, {Min: 1, Low: 2, High: 4}, {Low: 15, High: 15}} {
			m := made(t, line(nodes, 16, 0), marks)
			calms(t, m, 5, 5, 1, 0, true)
			calms(t, m, 1, 1, 1, 0, true)
			looks(t, m, nil, all(nodes), 0)
		}
		// What has just so many frames as the greatest marks can be is neither poor nor rich.
		m := made(t, line(nodes, 16, 0), heap.Marks{Min: 16, Low: 16, High: 16})
		calms(t, m, 5, 5, 1, 0, true)
		looks(t, m, nil, nil, 0)
	}
}

// P31.1, P1: of a nil machine, and of one that New didn't make, nothing ever moves, no node is poor or rich, and the need is 0.
func TestNil(t *testing.T) {
	for _, m := range []*alloc.Machine{nil, {}} {
		looks(t, m, nil, nil, 0)
		for _, most := range append([]int{0, 1}, odd...) {
			for _, rounds := range append([]int{0, 1}, odd...) {
				if rounds < 1 {
					calms(t, m, most, rounds, 0, 0, false)
				} else {
					calms(t, m, most, rounds, 1, 0, true)
				}
			}
		}
	}
}

// five is a machine five pages of which would move from node 0 to node 1.
func five(t *testing.T) *alloc.Machine {
	t.Helper()
	m := made(t, line(2, 16, 0), heap.Marks{Min: 1, Low: 6, High: 8})
	touched(t, m, 0, 15)
	return m
}

// P31.1: how many rounds there were, also the last one, that moves nothing; how many pages moved; is it calm?
func TestRounds(t *testing.T) {
	for _, c := range []struct {
		most, rounds, wantRounds, wantMoved int
		want                                bool
	}{
		{1, -1, 0, 0, false}, {1, 0, 0, 0, false}, {99, 0, 0, 0, false}, {99, -7, 0, 0, false}, {1, math.MinInt, 0, 0, false},
		{1, 1, 1, 1, false}, {1, 2, 2, 2, false}, {1, 4, 4, 4, false}, {1, 5, 5, 5, false}, {1, 6, 6, 5, true}, {1, 7, 6, 5, true}, {1, 1000, 6, 5, true},
		{2, 1, 1, 2, false}, {2, 2, 2, 4, false}, {2, 3, 3, 5, false}, {2, 4, 4, 5, true}, {2, 5, 4, 5, true},
		{4, 1, 1, 4, false}, {4, 2, 2, 5, false}, {4, 3, 3, 5, true}, {5, 1, 1, 5, false}, {5, 2, 2, 5, true}, {6, 1, 1, 5, false}, {6, 2, 2, 5, true},
		{math.MaxInt, 1, 1, 5, false}, {math.MaxInt, 2, 2, 5, true}, {math.MaxInt, math.MaxInt, 2, 5, true}, {1, math.MaxInt, 6, 5, true}, {1, 1 << 32, 6, 5, true},
		{0, 1, 1, 0, true}, {0, 9, 1, 0, true}, {-1, 1, 1, 0, true}, {-1, 9, 1, 0, true}, {math.MinInt, math.MaxInt, 1, 0, true},
		{0, 0, 0, 0, false}, {-1, -1, 0, 0, false}, {0, -1, 0, 0, false},
	} {
		m := five(t)
		was := content(m)
		looks(t, m, []int{0}, []int{1}, 5)
		calms(t, m, c.most, c.rounds, c.wantRounds, c.wantMoved, c.want)
		if now := content(m); now != was {
			t.Errorf("Calm(%d, %d) changed %s to %s", c.most, c.rounds, was, now)
		}
		if need := calm.Need(m); need != 5-c.wantMoved {
			t.Errorf("behind Calm(%d, %d) the need is %d", c.most, c.rounds, need)
		}
		calms(t, m, 1, 99, 6-c.wantMoved, 5-c.wantMoved, true)
		calms(t, m, 1, 99, 1, 0, true)
		looks(t, m, nil, []int{1}, 0)
	}
}

// P31.1: fewer than Low are poor, more than High are rich; of the poor ones the need is how many more would be Low.
func TestMarks(t *testing.T) {
	for _, c := range []struct {
		free       int
		poor, rich bool
		need       int
	}{{16, false, true, 0}, {9, false, true, 0}, {8, false, false, 0}, {7, false, false, 0}, {6, false, false, 0}, {5, true, false, 1}, {4, true, false, 2}, {1, true, false, 5}} {
		for nodes := 1; nodes <= 8; nodes++ {
			for node := range nodes {
				m := made(t, line(nodes, 16, 0), heap.Marks{Min: 1, Low: 6, High: 8})
				leaves(t, m, node, c.free)
				var poor, rich []int
				for other := range nodes {
					if other != node || c.rich {
						rich = append(rich, other)
					}
				}
				if c.poor {
					poor = []int{node}
				}
				looks(t, m, poor, rich, c.need)
			}
		}
	}
}

// P31.1: several nodes at once, each as it is; a rich one doesn't make up for a poor one.
func TestSeveralNodes(t *testing.T) {
	m := made(t, line(8, 16, 0), heap.Marks{Low: 4, High: 10})
	for node, free := range []int{3, 11, 0, 4, 16, 10, 2, 12} {
		leaves(t, m, node, free)
	}
	looks(t, m, []int{0, 2, 6}, []int{1, 4, 7}, 1+4+2)
	// None of its frames has a page that could move.
	calms(t, m, 9, 9, 1, 0, true)
	looks(t, m, []int{0, 2, 6}, []int{1, 4, 7}, 7)
	m = made(t, line(8, 4, 0), heap.Marks{Low: 4, High: 4})
	for node := range 8 {
		leaves(t, m, node, 0)
	}
	looks(t, m, all(8), nil, 32)
	calms(t, m, 9, 9, 1, 0, true)
}

// P31.2: it is calm also where a need is left: nothing may move, since Binds forbid it, or no node is rich any more.
func TestNeedIsLeft(t *testing.T) {
	m := five(t)
	addr := m.Live()[0]
	tells(t, "Set", m.Book().Set(addr/64, 13, bindTo(0)), api.OK)
	calms(t, m, 1, 99, 3, 2, true)
	looks(t, m, []int{0}, []int{1}, 3)
	if strays := audit.Strays(m); len(strays) != 0 {
		t.Errorf("strays: %v", strays)
	}
	calms(t, m, 99, 99, 1, 0, true)
	m = five(t)
	leaves(t, m, 1, 11)
	calms(t, m, 2, 99, 3, 3, true)
	looks(t, m, []int{0}, nil, 2)
	m = five(t)
	leaves(t, m, 1, 8)
	calms(t, m, 9, 9, 1, 0, true)
	looks(t, m, []int{0}, nil, 5)
	m = made(t, line(1, 16, 0), heap.Marks{Low: 6, High: 8})
	touched(t, m, 0, 15)
	calms(t, m, 9, 9, 1, 0, true)
	looks(t, m, []int{0}, nil, 5)
}

// P31.1: of eight nodes two are poor, and their pages go to others till those aren't rich, most of them each round.
func TestEightNodes(t *testing.T) {
	m := made(t, line(8, 16, 0, 7), heap.Marks{Min: 0, Low: 8, High: 13})
	touched(t, m, 0, 16)
	touched(t, m, 1, 15)
	looks(t, m, []int{0, 7}, []int{1, 2, 3, 4, 5, 6}, 15)
	calms(t, m, 4, 2, 2, 8, false)
	looks(t, m, []int{7}, []int{3, 4, 5, 6}, 7)
	calms(t, m, 4, 9, 3, 7, true)
	looks(t, m, nil, []int{3, 4}, 0)
}

// P31.1: as many rounds as there are pages to move, of the greatest nodes.
func TestManyRounds(t *testing.T) {
	m := made(t, line(2, 1024, 0), heap.Marks{Low: 512, High: 512})
	for range 1000 / 16 {
		touched(t, m, 0, 16)
	}
	touched(t, m, 0, 8)
	looks(t, m, []int{0}, []int{1}, 488)
	calms(t, m, 1, 300, 300, 300, false)
	calms(t, m, 1, math.MaxInt, 189, 188, true)
	looks(t, m, nil, []int{1}, 0)
}

// twin is a machine, built step by step from a seed, so that another one can be just as it is.
func twin(t *testing.T, shape topo.Topo, marks heap.Marks, seed uint32) *alloc.Machine {
	t.Helper()
	m := made(t, shape, marks)
	next := func(n int) int {
		seed = seed*1664525 + 1013904223
		return int(seed>>8) % n
	}
	for range 40 + next(60) {
		cpu := next(len(shape.CPUs))
		p := bindTo(next(shape.Nodes), next(shape.Nodes))
		p.Mode = next(4)
		live := m.Live()
		switch next(8) {
		case 0:
			m.Malloc(cpu, 1+next(64))
		case 1, 2, 3, 4:
			if a, e := m.Malloc(cpu, 65+next(960)); e == api.OK {
				size, _ := m.Size(a)
				m.Write(cpu, a, 0, slices.Repeat([]byte{byte(1 + next(255))}, 1+next(size)))
			}
		case 5:
			m.SetPolicy(cpu, p)
		case 6:
			if len(live) > 0 {
				m.MBind(live[next(len(live))], p)
			}
		case 7:
			if len(live) > 0 && next(2) == 0 {
				m.Free(cpu, live[next(len(live))])
			}
		}
	}
	return m
}

// byTicks is what Calm shall do, by the words of the chapter.
func byTicks(m *alloc.Machine, most, rounds int) (n, moved int, still bool) {
	for n < rounds && !still {
		list := migrate.Tick(m, most)
		n, moved, still = n+1, moved+len(list), len(list) == 0
	}
	return n, moved, still
}

// P31.1, P31.2, P4 to P6: many machines: as the words say, and nothing that can be read changes, nor does a page become a stray.
func TestManyMachines(t *testing.T) {
	moves, left := 0, 0
	for i := range 600 {
		shape := []topo.Topo{line(2, 32, 0, 1), line(3, 32, 0, 0, 1), line(8, 16, 0, 1, 2, 7), line(1, 32, 0)}[i%4]
		marks := heap.Marks{Min: 1, Low: 4 + i%9, High: 4 + i%9 + i%3}
		m, other := twin(t, shape, marks, uint32(i)), twin(t, shape, marks, uint32(i))
		was, strays, need := content(m), audit.Strays(m), calm.Need(m)
		most, rounds := []int{1, 2, 3, 99, 0, -1}[i%6], []int{1000, 1000, 2, 5, 1, 0, -1}[i%7]
		n, moved, still := byTicks(other, most, rounds)
		calms(t, m, most, rounds, n, moved, still)
		if places(m) != places(other) || content(m) != was || !audit.Sound(m) {
			t.Fatalf("machine %d: Calm(%d, %d): %s, not %s", i, most, rounds, places(m), places(other))
		}
		if calm.Need(m) != need-moved || moved > need {
			t.Errorf("machine %d: the need was %d, %d moved, and %d are left", i, need, moved, calm.Need(m))
		}
		for _, page := range audit.Strays(m) {
			if !slices.Contains(strays, page) {
				t.Errorf("machine %d: page %d is a stray now", i, page)
			}
		}
		moves += moved
		if most > 0 && still {
			holdsStill(t, m)
			left += calm.Need(m)
		}
	}
	if moves < 100 || left < 100 {
		t.Errorf("%d pages moved, %d were needed still", moves, left)
	}
}

// holdsStill looks whether no Tick moves anything, and looking changes nothing.
func holdsStill(t *testing.T, m *alloc.Machine) {
	t.Helper()
	was := content(m) + places(m)
	for _, most := range []int{1, 5, 4096, math.MaxInt} {
		if list := migrate.Tick(m, most); len(list) != 0 {
			t.Errorf("Tick(%d) behind a calm: %v", most, list)
		}
		calms(t, m, most, math.MaxInt, 1, 0, true)
	}
	calm.Poor(m)
	calm.Rich(m)
	calm.Need(m)
	if now := content(m) + places(m); now != was {
		t.Errorf("%s became %s", was, now)
	}
}

// P31.1: what is poor, what is rich, and what is needed, node by node; looking changes nothing.
func TestManyLooks(t *testing.T) {
	for i := range 200 {
		marks := heap.Marks{Low: 3 + i%11, High: 3 + i%11 + i%4}
		m := twin(t, line(1+i%8, 16, 0), marks, uint32(5000+i))
		was := content(m) + places(m)
		var poor, rich []int
		need := 0
		for node, sums := range audit.Nodes(m) {
			if sums.Free < marks.Low {
				poor, need = append(poor, node), need+marks.Low-sums.Free
			}
			if sums.Free > marks.High {
				rich = append(rich, node)
			}
		}
		looks(t, m, poor, rich, need)
		if now := content(m) + places(m); now != was {
			t.Errorf("looking changed %s to %s", was, now)
		}
	}
}

// P31.3: answers are new memory.
func TestAnswersAreNewMemory(t *testing.T) {
	m := made(t, line(4, 16, 0), heap.Marks{Low: 4, High: 8})
	leaves(t, m, 1, 2)
	leaves(t, m, 3, 3)
	for _, call := range []func(*alloc.Machine) []int{calm.Poor, calm.Rich} {
		list, other := call(m), call(m)
		list = list[:cap(list)]
		for i := range list {
			list[i] = 77
		}
		if slices.Contains(other, 77) || slices.Contains(call(m), 77) {
			t.Errorf("%v, %v", other, call(m))
		}
	}
	looks(t, m, []int{1, 3}, []int{0, 2}, 3)
}
