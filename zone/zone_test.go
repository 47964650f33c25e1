package zone_test

import (
	"math"
	"reflect"
	"slices"
	"testing"

	"messuage/api"
	"messuage/nodeset"
	"messuage/topo"
	"messuage/zone"
)

// noNodes are numbers of no node of a machine of 5.
var noNodes = []int{-1, 5, 6, 8, math.MaxInt, math.MinInt}

// machine is one of 5 nodes, some of them as far as others.
func machine() topo.Topo {
	return topo.Topo{Nodes: 5, Frames: 8, CPUs: []int{0}, Dist: [][]int{
		{10, 40, 20, 255, 20},
		{40, 10, 30, 11, 30},
		{20, 30, 10, 12, 20},
		{255, 11, 12, 10, 30},
		{20, 30, 20, 30, 10},
	}}
}

// ring is a machine of so many nodes, in a ring.
func ring(nodes int) topo.Topo {
	m := topo.Topo{Nodes: nodes, Frames: 1, CPUs: []int{0}}
	for a := range nodes {
		row := make([]int, nodes)
		for b := range nodes {
			way := max(a, b) - min(a, b)
			row[b] = 10 + min(way, nodes-way)
		}
		m.Dist = append(m.Dist, row)
	}
	return m
}

// wrongMachines are some, by topo.Check's errors.
func wrongMachines() map[api.Errno]topo.Topo {
	count, node, matrix := machine(), machine(), machine()
	count.Frames = 3
	node.CPUs = []int{5}
	matrix.Dist[4][0] = 21
	return map[api.Errno]topo.Topo{api.ErrCount: count, api.ErrNode: node, api.ErrMatrix: matrix}
}

// nearest is the order by its words: of the nodes that are left, the nearest one, and of these the least.
func nearest(m topo.Topo, node int) []int {
	var order []int
	for len(order) < m.Nodes {
		best := -1
		for n := range m.Nodes {
			if !slices.Contains(order, n) && (best < 0 || m.Dist[node][n] < m.Dist[node][best]) {
				best = n
			}
		}
		order = append(order, best)
	}
	return order
}

// P4.1: Order, and the document's example.
func TestOrder(t *testing.T) {
	for node, want := range [][]int{{0, 2, 4, 1, 3}, {1, 3, 2, 4, 0}, {2, 3, 0, 4, 1}, {3, 1, 2, 4, 0}, {4, 0, 2, 1, 3}} {
		if got, e := zone.Order(machine(), node); !slices.Equal(got, want) || e != api.OK {
			t.Errorf("Order(%d) = %v, %d", node, got, e)
		}
	}
	if got, e := zone.Order(ring(2), 1); !slices.Equal(got, []int{1, 0}) || e != api.OK {
		t.Error(got, e)
	}
	for nodes := 1; nodes <= 8; nodes++ {
		for node := range nodes {
			if got, e := zone.Order(ring(nodes), node); !slices.Equal(got, nearest(ring(nodes), node)) || e != api.OK {
				t.Errorf("of %d: Order(%d) = %v, %d", nodes, node, got, e)
			}
		}
	}
}

// P4.1: Within, of all sets, those of nodes that the machine hasn't among them.
func TestWithin(t *testing.T) {
	for s := range 256 {
		set := nodeset.Set(s)
		for node := range 5 {
			want := slices.DeleteFunc(nearest(machine(), node), func(n int) bool { return s>>n&1 == 0 })
			if got, e := zone.Within(machine(), node, set); !slices.Equal(got, want) || e != api.OK {
				t.Errorf("Within(%d, %d) = %v, %d", node, set, got, e)
			}
		}
	}
}

// P4.1: Nearest, of all sets and of all lists of up to 5 answers.
func TestNearest(t *testing.T) {
	for s := range 64 {
		for length := range 6 {
			for bits := range 1 << length {
				may := make([]bool, length)
				for n := range may {
					may[n] = bits>>n&1 == 1
				}
				for node := range 5 {
					testNearest(t, node, nodeset.Set(s), may)
				}
			}
		}
	}
}

func testNearest(t *testing.T, node int, s nodeset.Set, may []bool) {
	t.Helper()
	want, wantOk := 0, false
	for _, n := range nearest(machine(), node) {
		if s>>n&1 == 1 && n < len(may) && may[n] {
			want, wantOk = n, true
			break
		}
	}
	if n, ok := zone.Nearest(machine(), node, s, may); n != want || ok != wantOk {
		t.Errorf("Nearest(%d, %d, %v) = %d, %v", node, s, may, n, ok)
	}
}

// P4.1: a list of answers that is too long says nothing of nodes that aren't there; none says no.
func TestNearestOfOtherLists(t *testing.T) {
	may := make([]bool, 9)
	may[5], may[6], may[7], may[8] = true, true, true, true
	if n, ok := zone.Nearest(machine(), 0, 255, may); n != 0 || ok {
		t.Error(n, ok)
	}
	may[3] = true
	if n, ok := zone.Nearest(machine(), 0, 255, may); n != 3 || !ok {
		t.Error(n, ok)
	}
	if n, ok := zone.Nearest(machine(), 4, 255, nil); n != 0 || ok {
		t.Error(n, ok)
	}
}

// P4.1: errors of nodes, and of machines, those first.
func TestErrors(t *testing.T) {
	all := slices.Repeat([]bool{true}, 8)
	refused := func(m topo.Topo, node int, want api.Errno) {
		t.Helper()
		if l, e := zone.Order(m, node); len(l) != 0 || e != want {
			t.Errorf("Order(%v, %d) = %v, %d", m, node, l, e)
		}
		if l, e := zone.Within(m, node, 255); len(l) != 0 || e != want {
			t.Errorf("Within(%v, %d) = %v, %d", m, node, l, e)
		}
		if n, ok := zone.Nearest(m, node, 255, all); n != 0 || ok {
			t.Errorf("Nearest(%v, %d) = %d, %v", m, node, n, ok)
		}
	}
	for _, node := range noNodes {
		refused(machine(), node, api.ErrNode)
	}
	for e, m := range wrongMachines() {
		for _, node := range append(slices.Clone(noNodes), 0, 4) {
			refused(m, node, e)
		}
	}
	refused(topo.Topo{}, 0, api.ErrCount)
}

// P4.2: each node comes to itself first, as near as others may be.
func TestEachNodeComesToItselfFirst(t *testing.T) {
	for nodes := 1; nodes <= 8; nodes++ {
		m := ring(nodes)
		for a := range nodes {
			for b := range nodes {
				if a != b {
					m.Dist[a][b] = 11
				}
			}
		}
		for node := range nodes {
			if l, e := zone.Order(m, node); e != api.OK || len(l) != nodes || l[0] != node {
				t.Errorf("Order(%d) = %v, %d", node, l, e)
			}
			set := nodeset.Set(1<<node | 1)
			if l, e := zone.Within(m, node, set); e != api.OK || len(l) == 0 || l[0] != node {
				t.Errorf("Within(%d, %d) = %v, %d", node, set, l, e)
			}
			if n, ok := zone.Nearest(m, node, 255, slices.Repeat([]bool{true}, nodes)); n != node || !ok {
				t.Errorf("Nearest(%d) = %d, %v", node, n, ok)
			}
		}
	}
}

// P4.3: what is handed in isn't changed, its spare room neither; answers are new memory.
func TestMemoryOfZonesIsNotShared(t *testing.T) {
	m := machine()
	room := []bool{false, false, true, true, false, true, true}
	spare := append(slices.Clone(m.Dist[0]), 77)
	m.Dist[0] = spare[:5]
	first, _ := zone.Order(m, 0)
	within, _ := zone.Within(m, 0, 255)
	zone.Nearest(m, 0, 255, room[:5])
	for _, l := range [][]int{first, within} {
		l = l[:cap(l)]
		for i := range l {
			l[i] = 99
		}
	}
	if !reflect.DeepEqual(m, machine()) || spare[5] != 77 {
		t.Error("the machine is changed")
	}
	if !slices.Equal(room, []bool{false, false, true, true, false, true, true}) {
		t.Error("the list is changed")
	}
	if again, _ := zone.Order(m, 0); !slices.Equal(again, []int{0, 2, 4, 1, 3}) {
		t.Error("answers share memory")
	}
}
