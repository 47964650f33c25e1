package cost_test

import (
	"fmt"
	"math"
	"slices"
	"testing"

	"messuage/alloc"
	"messuage/api"
	"messuage/cost"
	"messuage/heap"
	"messuage/nodeset"
	"messuage/policy"
	"messuage/stats"
	"messuage/topo"
)

// odd are numbers at the ends of all that an int can be, and near to such limits as chapters name.
var odd = []int{-1, -2, -8, 8, 9, 63, 64, 65, 255, 256, 1 << 32, 1<<32 + 1, math.MaxInt, math.MaxInt - 1, math.MinInt, math.MinInt + 1}

// line is nodes side by side in a line: the farther apart two numbers are, the greater is the distance.
func line(nodes int, cpus ...int) topo.Topo {
	t := topo.Topo{Nodes: nodes, Frames: 64, CPUs: cpus}
	for from := range nodes {
		var row []int
		for to := range nodes {
			row = append(row, 10+10*max(from-to, to-from))
		}
		t.Dist = append(t.Dist, row)
	}
	return t
}

// pair is two nodes that are so far from each other.
func pair(far int) topo.Topo {
	return topo.Topo{Nodes: 2, Frames: 4, CPUs: []int{0, 1}, Dist: [][]int{{10, far}, {far, 10}}}
}

// event is that a CPU of node own got frames on a node.
func event(own, node int) stats.Event {
	return stats.Event{Own: own, Node: node}
}

// wrongTopo is none, and what it is told.
type wrongTopo struct {
	t    topo.Topo
	want api.Errno
}

func wrongTopos() []wrongTopo {
	with := func(change func(*topo.Topo)) topo.Topo {
		x := line(2, 0, 1)
		change(&x)
		return x
	}
	return []wrongTopo{
		{topo.Topo{}, api.ErrCount},
		{with(func(x *topo.Topo) { x.Nodes = 0 }), api.ErrCount},
		{with(func(x *topo.Topo) { x.Nodes = 9 }), api.ErrCount},
		{with(func(x *topo.Topo) { x.Nodes = -1 }), api.ErrCount},
		{with(func(x *topo.Topo) { x.Nodes = math.MaxInt }), api.ErrCount},
		{with(func(x *topo.Topo) { x.Frames = 3 }), api.ErrCount},
		{with(func(x *topo.Topo) { x.CPUs = nil }), api.ErrCount},
		{with(func(x *topo.Topo) { x.CPUs = make([]int, 17) }), api.ErrCount},
		{with(func(x *topo.Topo) { x.CPUs[1] = 2 }), api.ErrNode},
		{with(func(x *topo.Topo) { x.CPUs[0] = -1; x.Dist = nil }), api.ErrNode},
		{with(func(x *topo.Topo) { x.Dist = nil }), api.ErrMatrix},
		{with(func(x *topo.Topo) { x.Dist[0] = nil }), api.ErrMatrix},
		{with(func(x *topo.Topo) { x.Dist[1] = x.Dist[1][:1] }), api.ErrMatrix},
		{with(func(x *topo.Topo) { x.Dist = x.Dist[:1] }), api.ErrMatrix},
		{with(func(x *topo.Topo) { x.Dist[0][0] = 11 }), api.ErrMatrix},
		{with(func(x *topo.Topo) { x.Dist[0][1] = 21 }), api.ErrMatrix},
		{with(func(x *topo.Topo) { x.Dist[0][1], x.Dist[1][0] = 256, 256 }), api.ErrMatrix},
		{with(func(x *topo.Topo) { x.Dist[0][1], x.Dist[1][0] = 10, 10 }), api.ErrMatrix},
		{with(func(x *topo.Topo) { x.Nodes = 3 }), api.ErrMatrix},
		{with(func(x *topo.Topo) { x.Nodes = 8 }), api.ErrMatrix},
	}
}

// table compares all cells, row by row.
func table(t *testing.T, x topo.Topo, l []stats.Event, want ...[]int) {
	t.Helper()
	g, e := cost.Table(x, l)
	if g == nil || e != api.OK || g.Rows() != len(want) || g.Cols() != len(want) {
		t.Fatalf("Table(%v, %v) = %v, %d", x, l, g, e)
	}
	for own, row := range want {
		if !slices.Equal(g.Row(own), row) {
			t.Errorf("Table(%v, %v): row %d is %v, not %v", x, l, own, g.Row(own), row)
		}
	}
}

func sum(t *testing.T, x topo.Topo, l []stats.Event, want int) {
	t.Helper()
	if n, e := cost.Sum(x, l); n != want || e != api.OK {
		t.Errorf("Sum(%v, %v) = %d, %d, not %d", x, l, n, e, want)
	}
}

func far(t *testing.T, x topo.Topo, l []stats.Event, limit, want int) {
	t.Helper()
	if n, e := cost.Far(x, l, limit); n != want || e != api.OK {
		t.Errorf("Far(%v, %v, %d) = %d, %d, not %d", x, l, limit, n, e, want)
	}
}

func best(t *testing.T, x topo.Topo, nodes []int, want, wantSum int) {
	t.Helper()
	if n, s, e := cost.Best(x, nodes); n != want || s != wantSum || e != api.OK {
		t.Errorf("Best(%v, %v) = %d, %d, %d, not %d, %d", x, nodes, n, s, e, want, wantSum)
	}
}

// refuses asks all calls that take events.
func refuses(t *testing.T, x topo.Topo, l []stats.Event, want api.Errno) {
	t.Helper()
	if g, e := cost.Table(x, l); g != nil || e != want {
		t.Errorf("Table(%v, %v) = %v, %d, not %d", x, l, g, e, want)
	}
	if n, e := cost.Sum(x, l); n != 0 || e != want {
		t.Errorf("Sum(%v, %v) = %d, %d, not %d", x, l, n, e, want)
	}
	for _, limit := range []int{-1, 0, 10, 255, math.MinInt, math.MaxInt} {
		if n, e := cost.Far(x, l, limit); n != 0 || e != want {
			t.Errorf("Far(%v, %v, %d) = %d, %d, not %d", x, l, limit, n, e, want)
		}
	}
}

func refusesBest(t *testing.T, x topo.Topo, nodes []int, want api.Errno) {
	t.Helper()
	if n, s, e := cost.Best(x, nodes); n != 0 || s != 0 || e != want {
		t.Errorf("Best(%v, %v) = %d, %d, %d, not %d", x, nodes, n, s, e, want)
	}
}

// P29.1: the document's example.
func TestExample(t *testing.T) {
	sum(t, pair(20), []stats.Event{event(0, 1)}, 20)
}

// P29.1: of no event all cells and sums are 0, of all counts of nodes.
func TestNoEvent(t *testing.T) {
	for nodes := 1; nodes <= 8; nodes++ {
		x := line(nodes, 0)
		for _, l := range [][]stats.Event{nil, {}} {
			table(t, x, l, slices.Repeat([][]int{make([]int, nodes)}, nodes)...)
			sum(t, x, l, 0)
			for _, limit := range append([]int{0, 9, 10, 11}, odd...) {
				far(t, x, l, limit, 0)
			}
		}
	}
}

// P29.1: a row for each node of a CPU, a column for each node of frames.
func TestTable(t *testing.T) {
	l := []stats.Event{event(0, 1), event(0, 1), event(0, 1), event(1, 0), event(1, 0), event(2, 2), event(2, 0), event(2, 0), event(2, 0), event(2, 0), event(1, 2)}
	table(t, line(3, 0), l, []int{0, 3, 0}, []int{2, 0, 1}, []int{4, 0, 1})
	sum(t, line(3, 0), l, 3*20+2*20+1*20+4*30+10)
	far(t, line(3, 0), l, 20, 4)
	table(t, line(4, 0), l, []int{0, 3, 0, 0}, []int{2, 0, 1, 0}, []int{4, 0, 1, 0}, []int{0, 0, 0, 0})
}

// P29.1: one node, and eight of which each has another count with each other one.
func TestOneNodeAndEight(t *testing.T) {
	one := slices.Repeat([]stats.Event{event(0, 0)}, 5)
	table(t, line(1, 0), one, []int{5})
	sum(t, line(1, 0), one, 50)
	far(t, line(1, 0), one, 9, 5)
	far(t, line(1, 0), one, 10, 0)
	var l []stats.Event
	var want [][]int
	all := 0
	for own := range 8 {
		var row []int
		for node := range 8 {
			n := 3*own + 5*node
			l = append(l, slices.Repeat([]stats.Event{event(own, node)}, n)...)
			row = append(row, n)
			all += n * (10 + 10*max(own-node, node-own))
		}
		want = append(want, row)
	}
	table(t, line(8, 0, 7), l, want...)
	sum(t, line(8, 0, 7), l, all)
	slices.Reverse(l)
	table(t, line(8, 0, 7), l, want...)
}

// P29.1: events of one node alone, among several.
func TestEventsOfOneNode(t *testing.T) {
	l := slices.Repeat([]stats.Event{event(1, 1)}, 4)
	table(t, line(3, 0), l, []int{0, 0, 0}, []int{0, 4, 0}, []int{0, 0, 0})
	sum(t, line(3, 0), l, 40)
	far(t, line(3, 0), l, 10, 0)
	far(t, line(3, 0), l, 9, 4)
}

// P29.1: neither Start nor Interleave is looked at.
func TestStartIsNotLookedAt(t *testing.T) {
	for _, start := range append([]int{0, 1}, odd...) {
		l := []stats.Event{{Node: 1, Start: start}, {Node: 0, Start: start, Own: 1, Interleave: true}, {Node: 1, Start: start, Own: 1}}
		table(t, pair(40), l, []int{0, 1}, []int{1, 1})
		sum(t, pair(40), l, 90)
		far(t, pair(40), l, 10, 2)
	}
}

// P29.1: just below, at and above a distance, and limits at the ends of all numbers.
func TestLimits(t *testing.T) {
	l := []stats.Event{event(0, 0), event(0, 1), event(1, 0), event(1, 0), event(1, 1), event(1, 1), event(1, 1), event(1, 1)}
	for _, apart := range []int{11, 12, 20, 254, 255} {
		for limit, want := range map[int]int{
			math.MinInt: 8, math.MinInt + 1: 8, -1: 8, 0: 8, 9: 8, 10: 3, apart - 1: 3, apart: 0, apart + 1: 0, 256: 0, 1 << 32: 0, math.MaxInt - 1: 0, math.MaxInt: 0,
		} {
			far(t, pair(apart), l, limit, want)
		}
		sum(t, pair(apart), l, 50+3*apart)
	}
}

// P29.1: topo.Check's errors, also of no event, and ahead of what events have.
func TestWrongTopos(t *testing.T) {
	for _, c := range wrongTopos() {
		for _, l := range [][]stats.Event{nil, {event(0, 0)}, {event(0, 9)}, {event(-1, 0)}} {
			refuses(t, c.t, l, c.want)
		}
		for _, nodes := range [][]int{nil, {}, {0}, {1, 1}, {9}, {-1}} {
			refusesBest(t, c.t, nodes, c.want)
		}
	}
}

// P29.1: an event whose Own or Node isn't a node, wherever it stands.
func TestWrongEvents(t *testing.T) {
	for nodes := 1; nodes <= 8; nodes++ {
		for _, wrong := range append([]int{nodes, nodes + 1, -nodes}, odd...) {
			for _, x := range []stats.Event{event(wrong, 0), event(0, wrong), event(wrong, wrong), {Node: wrong, Start: wrong, Own: wrong}, {Own: wrong, Interleave: true}} {
				refuses(t, line(nodes, 0), []stats.Event{x}, api.ErrNode)
				refuses(t, line(nodes, 0), []stats.Event{x, event(0, 0)}, api.ErrNode)
				refuses(t, line(nodes, 0), []stats.Event{event(0, 0), event(nodes-1, nodes-1), x}, api.ErrNode)
			}
			refusesBest(t, line(nodes, 0), []int{wrong}, api.ErrNode)
			refusesBest(t, line(nodes, 0), []int{wrong, 0}, api.ErrNode)
			refusesBest(t, line(nodes, 0), []int{nodes - 1, 0, wrong}, api.ErrNode)
		}
	}
}

// P29.1: the node from which the distances come to the least; of several the lowest.
func TestBest(t *testing.T) {
	for nodes := 1; nodes <= 8; nodes++ {
		best(t, line(nodes, 0), nil, 0, 0)
		best(t, line(nodes, 0), []int{}, 0, 0)
		for node := range nodes {
			best(t, line(nodes, 0), []int{node}, node, 10)
			best(t, line(nodes, 0), []int{node, node}, node, 20)
			best(t, line(nodes, 0), slices.Repeat([]int{node}, 1000), node, 10000)
		}
	}
	best(t, line(3, 0), []int{0, 2}, 0, 40)
	best(t, line(3, 0), []int{2, 0}, 0, 40)
	best(t, line(3, 0), []int{1, 2}, 1, 30)
	best(t, line(3, 0), []int{0, 1, 2}, 1, 50)
	best(t, line(3, 0), []int{2, 0, 2}, 2, 50)
	best(t, line(8, 0), []int{0, 7, 7}, 7, 100)
	best(t, pair(255), []int{1, 0}, 0, 265)
	best(t, pair(255), []int{1, 0, 1}, 1, 275)
	// A node in between that isn't named may be the best one.
	star := line(3, 0)
	star.Dist = [][]int{{10, 200, 11}, {200, 10, 11}, {11, 11, 10}}
	best(t, star, []int{0, 1}, 2, 22)
	best(t, star, []int{0, 1, 0}, 2, 33)
	best(t, star, []int{0, 0, 0, 0, 0, 0, 0}, 0, 70)
}

// dice makes machines, and events.
type dice uint32

func (d *dice) next(n int) int {
	*d = *d*1664525 + 1013904223
	return int(*d>>8) % n
}

func (d *dice) topo(nodes int) topo.Topo {
	x := line(nodes, 0)
	for from := range nodes {
		for to := range from {
			apart := 11 + d.next([]int{3, 20, 245}[d.next(3)])
			x.Dist[from][to], x.Dist[to][from] = apart, apart
		}
	}
	return x
}

// P29.1, P29.2: many machines and events, by the words of the chapter, event by event.
func TestManyEvents(t *testing.T) {
	d := dice(1)
	for i := range 1500 {
		nodes := 1 + i%8
		x := d.topo(nodes)
		var l []stats.Event
		var named []int
		want := make([][]int, nodes)
		for own := range want {
			want[own] = make([]int, nodes)
		}
		all, over, limit := 0, 0, d.next(270)
		for range d.next(60) {
			own, node := d.next(nodes), d.next(nodes)
			l = append(l, stats.Event{Own: own, Node: node, Start: d.next(9) - 1, Interleave: d.next(2) == 0})
			named = append(named, node)
			want[own][node]++
			all += x.Dist[own][node]
			if x.Dist[own][node] > limit {
				over++
			}
		}
		table(t, x, l, want...)
		sum(t, x, l, all)
		far(t, x, l, limit, over)
		if n, e := cost.Sum(x, l); n < 10*len(l) || e != api.OK {
			t.Errorf("Sum(%v, %v) = %d, %d", x, l, n, e)
		}
		sums := make([]int, nodes)
		for from := range nodes {
			for _, node := range named {
				sums[from] += x.Dist[from][node]
			}
		}
		best(t, x, named, slices.Index(sums, slices.Min(sums)), slices.Min(sums))
	}
}

// P29.1, P6: the events of a machine: locals of a node are what stands in its row and column, and others are what stands in its column.
func TestEventsOfAMachine(t *testing.T) {
	x := line(3, 0, 1, 2)
	m, e := alloc.New(x, heap.Marks{})
	if e != api.OK {
		t.Fatal(e)
	}
	for i := range 60 {
		cpu := i % 3
		m.SetPolicy(cpu, policy.Policy{Mode: i % 4, Set: nodeset.Set(1 + i%7), Node: i % 3})
		a, _ := m.Malloc(cpu, 1+13*i%500)
		m.Read(cpu, a, 0, 1)
	}
	g, e := cost.Table(x, m.Log().Events())
	if e != api.OK {
		t.Fatal(e)
	}
	for node := range 3 {
		counts, _ := m.Log().Node(node)
		column := g.Turned().Row(node)
		if column[node] != counts.Local || column[0]+column[1]+column[2] != counts.Local+counts.Other || counts.Local == 0 || counts.Other == 0 {
			t.Errorf("node %d: %v of %v", node, column, counts)
		}
	}
	far(t, x, m.Log().Events(), math.MinInt, len(m.Log().Events()))
}

// P29.3: lists that are handed in stay as they are, their spare room too, and aren't kept; a table is new each time.
func TestArgumentsAndAnswers(t *testing.T) {
	x := line(3, 0, 2)
	room := []stats.Event{event(0, 1), event(2, 2), event(1, 0), event(7, 7), event(8, 8)}
	nodes := []int{2, 1, 1, 99, 98}
	was := fmt.Sprint(x, room, nodes)
	g, _ := cost.Table(x, room[:3])
	cost.Sum(x, room[:3])
	cost.Far(x, room[:3], 10)
	cost.Best(x, nodes[:3])
	refuses(t, x, room, api.ErrNode)
	refusesBest(t, x, nodes, api.ErrNode)
	if now := fmt.Sprint(x, room, nodes); now != was {
		t.Errorf("%s became %s", was, now)
	}
	room[0] = event(2, 2)
	x.Dist[0][1], x.Dist[1][0] = 99, 99
	if !slices.Equal(g.Row(0), []int{0, 1, 0}) || !slices.Equal(g.Row(2), []int{0, 0, 1}) {
		t.Errorf("the table is %v", g)
	}
	other, _ := cost.Table(x, room[:3])
	g.Put(1, 0, 77)
	if !slices.Equal(other.Row(1), []int{1, 0, 0}) {
		t.Errorf("the other table is %v", other)
	}
	sum(t, x, room[:3], 119)
}
