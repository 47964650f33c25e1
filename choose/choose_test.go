package choose_test

import (
	"math"
	"reflect"
	"slices"
	"testing"

	"messuage/api"
	"messuage/choose"
	"messuage/nodeset"
	"messuage/policy"
	"messuage/topo"
)

// noCPUs are numbers of no CPU of a machine of n.
func noCPUs(n int) []int {
	return []int{-1, -n, n, n + 1, 16, 17, 1 << 32, 1<<32 + 1, math.MaxInt, math.MinInt, math.MinInt + 1}
}

// machine is one of 4 nodes, some of them as far as others, with CPUs of 3 of them.
func machine() topo.Topo {
	return topo.Topo{Nodes: 4, Frames: 8, CPUs: []int{3, 0, 2, 3, 0}, Dist: [][]int{
		{10, 30, 20, 20},
		{30, 10, 11, 255},
		{20, 11, 10, 20},
		{20, 255, 20, 10},
	}}
}

// even is a machine of so many nodes, each as far from the others, with two CPUs each, the last node's first.
func even(nodes int) topo.Topo {
	m := topo.Topo{Nodes: nodes, Frames: 1}
	for a := range nodes {
		row := slices.Repeat([]int{255}, nodes)
		row[a] = 10
		m.Dist = append(m.Dist, row)
		m.CPUs = append(m.CPUs, nodes-1-a, nodes-1-a)
	}
	return m
}

// alone is a machine of one node with one CPU.
func alone() topo.Topo {
	return topo.Topo{Nodes: 1, Frames: 1, CPUs: []int{0}, Dist: [][]int{{10}}}
}

// policies are all on so many nodes.
func policies(nodes int) []policy.Policy {
	all := []policy.Policy{{}}
	for s := 1; s < 1<<nodes; s++ {
		all = append(all, policy.Policy{Mode: policy.Bind, Set: nodeset.Set(s)}, policy.Policy{Mode: policy.Interleave, Set: nodeset.Set(s)})
	}
	for node := range nodes {
		all = append(all, policy.Policy{Mode: policy.Preferred, Node: node})
	}
	return all
}

// wrongPolicies are policies with their errors on 4 nodes.
func wrongPolicies() map[policy.Policy]api.Errno {
	return map[policy.Policy]api.Errno{
		{Mode: -1}:                                  api.ErrArg,
		{Mode: 4}:                                   api.ErrArg,
		{Mode: math.MaxInt, Set: 255, Node: 9}:      api.ErrArg,
		{Mode: math.MinInt}:                         api.ErrArg,
		{Mode: policy.Bind}:                         api.ErrArg,
		{Mode: policy.Interleave, Node: 1}:          api.ErrArg,
		{Mode: policy.Bind, Set: 16}:                api.ErrNode,
		{Mode: policy.Bind, Set: 255}:               api.ErrNode,
		{Mode: policy.Interleave, Set: 17}:          api.ErrNode,
		{Mode: policy.Preferred, Node: 4}:           api.ErrNode,
		{Mode: policy.Preferred, Node: -1}:          api.ErrNode,
		{Mode: policy.Preferred, Node: math.MaxInt}: api.ErrNode,
	}
}

// wrongMachines are some, by topo.Check's errors.
func wrongMachines() map[api.Errno]topo.Topo {
	count, node, matrix := machine(), machine(), machine()
	count.CPUs = nil
	node.CPUs[4] = 4
	matrix.Dist[3][0] = 21
	return map[api.Errno]topo.Topo{api.ErrCount: count, api.ErrNode: node, api.ErrMatrix: matrix}
}

// permitted is whether frames may come from a node, by the words of policy's chapter.
func permitted(p policy.Policy, node int) bool {
	return p.Mode != policy.Bind || p.Set>>node&1 == 1
}

// lists are all of so many answers.
func lists(length int) [][]bool {
	var all [][]bool
	for bits := range 1 << length {
		may := make([]bool, length)
		for n := range may {
			may[n] = bits>>n&1 == 1
		}
		all = append(all, may)
	}
	return all
}

func chooses(t *testing.T, m topo.Topo, p policy.Policy, cpu, cursor int, may []bool, want choose.Choice, wantE api.Errno) {
	t.Helper()
	if c, e := choose.Node(m, p, cpu, cursor, may); c != want || e != wantE {
		t.Errorf("Node(%v, %v, %d, %d, %v) = %v, %d, not %v, %d", m, p, cpu, cursor, may, c, e, want, wantE)
	}
}

// expected is the choice by its words: of the permitted nodes that may, the first of those that are nearest to start.
func expected(m topo.Topo, p policy.Policy, cpu, cursor int, may []bool) (choose.Choice, api.Errno) {
	start, behind, _ := policy.Start(p, m.Nodes, m.CPUs[cpu], cursor)
	best := -1
	for node := range m.Nodes {
		if node < len(may) && may[node] && permitted(p, node) && (best < 0 || m.Dist[start][node] < m.Dist[start][best]) {
			best = node
		}
	}
	if best < 0 {
		return choose.Choice{Start: start, Cursor: behind}, api.ErrNoMem
	}
	return choose.Choice{Node: best, Start: start, Cursor: behind}, api.OK
}

// P11.1: some by hand, and the document's example.
func TestNode(t *testing.T) {
	all := slices.Repeat([]bool{true}, 4)
	two := topo.Topo{Nodes: 2, Frames: 4, CPUs: []int{1}, Dist: [][]int{{10, 20}, {20, 10}}}
	chooses(t, two, policy.Policy{}, 0, 0, all[:2], choose.Choice{Node: 1, Start: 1}, api.OK)
	chooses(t, two, policy.Policy{}, 0, 7, []bool{true, false}, choose.Choice{Node: 0, Start: 1, Cursor: 7}, api.OK)

	chooses(t, machine(), policy.Policy{}, 0, 5, all, choose.Choice{Node: 3, Start: 3, Cursor: 5}, api.OK)
	chooses(t, machine(), policy.Policy{}, 2, 5, []bool{true, true, false, true}, choose.Choice{Node: 1, Start: 2, Cursor: 5}, api.OK)
	chooses(t, machine(), policy.Policy{Mode: policy.Bind, Set: 6}, 0, -1, all, choose.Choice{Node: 2, Start: 3, Cursor: -1}, api.OK)
	chooses(t, machine(), policy.Policy{Mode: policy.Bind, Set: 2}, 3, 0, all, choose.Choice{Node: 1, Start: 3}, api.OK)
	chooses(t, machine(), policy.Policy{Mode: policy.Interleave, Set: 10}, 1, 1, all, choose.Choice{Node: 3, Start: 3, Cursor: 3}, api.OK)
	chooses(t, machine(), policy.Policy{Mode: policy.Interleave, Set: 10}, 1, 3, []bool{true, false, false, true}, choose.Choice{Node: 0, Start: 1, Cursor: 1}, api.OK)
	chooses(t, machine(), policy.Policy{Mode: policy.Preferred, Node: 1}, 4, 2, []bool{true, false, true, true}, choose.Choice{Node: 2, Start: 1, Cursor: 2}, api.OK)
}

// P11.1: of nodes that are equally near the least comes first, and the start before all.
func TestEquallyNear(t *testing.T) {
	chooses(t, machine(), policy.Policy{}, 1, 0, []bool{false, true, true, true}, choose.Choice{Node: 2, Start: 0}, api.OK)
	chooses(t, machine(), policy.Policy{}, 0, 0, []bool{true, true, true, false}, choose.Choice{Node: 0, Start: 3}, api.OK)
	all := slices.Repeat([]bool{true}, 8)
	for cpu := range 16 {
		own, least := 7-cpu/2, 0
		if own == least {
			least = 1
		}
		chooses(t, even(8), policy.Policy{}, cpu, 0, all, choose.Choice{Node: own, Start: own}, api.OK)
		chooses(t, even(8), policy.Policy{Mode: policy.Bind, Set: 255 &^ (1 << own)}, cpu, 0, all, choose.Choice{Node: least, Start: own}, api.OK)
	}
}

// P11.1, P11.2: of all policies, for all CPUs, at the cursors of nodes and at others, of all lists, short ones among them.
func TestNodeOfAll(t *testing.T) {
	for _, m := range []topo.Topo{alone(), machine(), even(2), even(3)} {
		for length := range m.Nodes + 2 {
			for _, may := range lists(length) {
				testNodeOfAll(t, m, may)
			}
		}
	}
}

func testNodeOfAll(t *testing.T, m topo.Topo, may []bool) {
	t.Helper()
	for _, p := range policies(m.Nodes) {
		for cpu := range m.CPUs {
			for _, cursor := range []int{0, 1, 2, 3, 7, -1, math.MaxInt, math.MinInt} {
				want, wantE := expected(m, p, cpu, cursor, may)
				chooses(t, m, p, cpu, cursor, may, want, wantE)
			}
		}
	}
}

// P11.2: no permitted node that may is nearer to Start, of machines with all nodes.
func TestNoneIsNearer(t *testing.T) {
	m := even(8)
	for a := range 8 {
		for b := range 8 {
			if a != b {
				m.Dist[a][b] = 11 + (a*b*37+a+b)%200
			}
		}
	}
	for _, may := range lists(8) {
		for _, p := range policies(8) {
			c, e := choose.Node(m, p, 6, 2, may)
			if e != api.OK {
				c.Node = -1
			} else if !may[c.Node] || !permitted(p, c.Node) {
				t.Fatalf("Node(%v, %v) = %v: it may not", p, may, c)
			}
			for n := range 8 {
				if may[n] && permitted(p, n) && (c.Node < 0 || m.Dist[c.Start][n] < m.Dist[c.Start][c.Node]) {
					t.Fatalf("Node(%v, %v) = %v, %d: %d is nearer", p, may, c, e, n)
				}
			}
		}
	}
}

// P11.1: without a node that may, Start and Cursor are told all the same.
func TestNoneMay(t *testing.T) {
	none := make([]bool, 4)
	for _, may := range [][]bool{nil, {}, {false}, none, append(slices.Clone(none), true, true, true, true, true)} {
		chooses(t, machine(), policy.Policy{}, 0, 5, may, choose.Choice{Start: 3, Cursor: 5}, api.ErrNoMem)
		chooses(t, machine(), policy.Policy{Mode: policy.Bind, Set: 4}, 3, -5, may, choose.Choice{Start: 3, Cursor: -5}, api.ErrNoMem)
		chooses(t, machine(), policy.Policy{Mode: policy.Interleave, Set: 6}, 0, 1, may, choose.Choice{Start: 2, Cursor: 2}, api.ErrNoMem)
		chooses(t, machine(), policy.Policy{Mode: policy.Interleave, Set: 6}, 0, math.MaxInt, may, choose.Choice{Start: 1, Cursor: 1}, api.ErrNoMem)
		chooses(t, machine(), policy.Policy{Mode: policy.Interleave, Set: 6}, 0, math.MinInt, may, choose.Choice{Start: 1, Cursor: 1}, api.ErrNoMem)
		chooses(t, machine(), policy.Policy{Mode: policy.Preferred, Node: 2}, 0, math.MinInt, may, choose.Choice{Start: 2, Cursor: math.MinInt}, api.ErrNoMem)
		chooses(t, alone(), policy.Policy{}, 0, math.MaxInt, may[:min(1, len(may))], choose.Choice{Cursor: math.MaxInt}, api.ErrNoMem)
	}
	// Others may, but a Bind doesn't permit them.
	chooses(t, machine(), policy.Policy{Mode: policy.Bind, Set: 4}, 0, 1, []bool{true, true, false, true}, choose.Choice{Start: 3, Cursor: 1}, api.ErrNoMem)
}

// P11.1: errors, in their order: the machine's, the CPU's, the policy's, and then that none may.
func TestErrors(t *testing.T) {
	all := slices.Repeat([]bool{true}, 4)
	for _, may := range [][]bool{nil, all} {
		for want, m := range wrongMachines() {
			for p := range wrongPolicies() {
				for _, cpu := range append(noCPUs(5), 0) {
					chooses(t, m, p, cpu, 3, may, choose.Choice{}, want)
					chooses(t, m, policy.Policy{}, cpu, 3, may, choose.Choice{}, want)
				}
			}
		}
		for p, want := range wrongPolicies() {
			for _, cpu := range noCPUs(5) {
				chooses(t, machine(), p, cpu, 3, may, choose.Choice{}, api.ErrCPU)
				chooses(t, machine(), policy.Policy{}, cpu, 3, may, choose.Choice{}, api.ErrCPU)
			}
			for cpu := range 5 {
				chooses(t, machine(), p, cpu, 3, may, choose.Choice{}, want)
			}
		}
		chooses(t, topo.Topo{}, policy.Policy{}, 0, 0, may, choose.Choice{}, api.ErrCount)
	}
}

// P11.1: a policy is checked against the machine's own count of nodes.
func TestPolicyOfAnotherMachine(t *testing.T) {
	for nodes := 1; nodes <= 8; nodes++ {
		all := slices.Repeat([]bool{true}, 8)
		last := nodes - 1
		chooses(t, even(nodes), policy.Policy{Mode: policy.Preferred, Node: last}, 0, 0, all, choose.Choice{Node: last, Start: last}, api.OK)
		chooses(t, even(nodes), policy.Policy{Mode: policy.Preferred, Node: nodes}, 0, 0, all, choose.Choice{}, api.ErrNode)
		if nodes < 8 {
			chooses(t, even(nodes), policy.Policy{Mode: policy.Bind, Set: 1<<nodes | 1}, 0, 0, all, choose.Choice{}, api.ErrNode)
		}
	}
}

// P11.3: what is handed in isn't changed, its spare room neither, and not kept.
func TestWhatIsHandedInIsLeftAlone(t *testing.T) {
	m := machine()
	room := []bool{false, true, false, false, true, true}
	row := append(slices.Clone(m.Dist[3]), 77)
	cpus := append(slices.Clone(m.CPUs), 66)
	m.Dist[3], m.CPUs = row[:4], cpus[:5]
	chooses(t, m, policy.Policy{}, 0, 2, room[:4], choose.Choice{Node: 1, Start: 3, Cursor: 2}, api.OK)
	chooses(t, m, policy.Policy{}, 9, 2, room[:4], choose.Choice{}, api.ErrCPU)
	chooses(t, m, policy.Policy{}, 0, 2, room[:1], choose.Choice{Start: 3, Cursor: 2}, api.ErrNoMem)
	if !reflect.DeepEqual(m, machine()) || row[4] != 77 || cpus[5] != 66 {
		t.Error("the machine is changed")
	}
	if !slices.Equal(room, []bool{false, true, false, false, true, true}) {
		t.Error("the list is changed")
	}
	// What is changed afterwards counts from the next call on.
	room[2], m.CPUs[0] = true, 2
	chooses(t, m, policy.Policy{}, 0, 2, room[:4], choose.Choice{Node: 2, Start: 2, Cursor: 2}, api.OK)
	room[2], m.CPUs[0] = false, 3
	chooses(t, m, policy.Policy{}, 0, 2, room[:4], choose.Choice{Node: 1, Start: 3, Cursor: 2}, api.OK)
}
