package topo_test

import (
	"math"
	"reflect"
	"slices"
	"testing"

	"messuage/api"
	"messuage/topo"
)

// machine is one of so many nodes, with a CPU on each and distances that are all others.
func machine(nodes, frames int) topo.Topo {
	t := topo.Topo{Nodes: nodes, Frames: frames}
	for n := range nodes {
		t.CPUs = append(t.CPUs, n)
		t.Dist = append(t.Dist, make([]int, nodes))
	}
	for a := range nodes {
		for b := range nodes {
			t.Dist[a][b] = 10 + 3*max(a, b) - 2*min(a, b) + a*b
		}
		t.Dist[a][a] = 10
	}
	return t
}

// copied is the same machine in memory of its own.
func copied(t topo.Topo) topo.Topo {
	t.CPUs = slices.Clone(t.CPUs)
	t.Dist = slices.Clone(t.Dist)
	for i, row := range t.Dist {
		t.Dist[i] = slices.Clone(row)
	}
	return t
}

// check: Check answers want, and so does Text, with no text.
func check(t *testing.T, m topo.Topo, want api.Errno) {
	t.Helper()
	if e := topo.Check(m); e != want {
		t.Errorf("Check(%v) = %d, not %d", m, e, want)
	}
	if text, e := topo.Text(m); e != want || want != api.OK && text != "" {
		t.Errorf("Text(%v) = %q, %d, not %d", m, text, e, want)
	}
}

// P3.1: machines of all counts that are allowed.
func TestCheckOfMachines(t *testing.T) {
	for nodes := 1; nodes <= 8; nodes++ {
		for frames := 1; frames <= 1024; frames *= 2 {
			check(t, machine(nodes, frames), api.OK)
		}
	}
	for cpus := 1; cpus <= 16; cpus++ {
		m := machine(3, 8)
		m.CPUs = slices.Repeat([]int{2}, cpus)
		check(t, m, api.OK)
	}
}

// P3.1: ErrCount.
func TestCheckOfCounts(t *testing.T) {
	for _, nodes := range []int{0, -1, 9, math.MaxInt, math.MinInt} {
		m := machine(2, 8)
		m.Nodes = nodes
		check(t, m, api.ErrCount)
	}
	check(t, machine(9, 8), api.ErrCount)
	for frames := -5; frames <= 2050; frames++ {
		want := api.ErrCount
		if slices.Contains([]int{1, 2, 4, 8, 16, 32, 64, 128, 256, 512, 1024}, frames) {
			want = api.OK
		}
		check(t, machine(2, frames), want)
	}
	for _, frames := range []int{4096, 1 << 62, math.MaxInt, math.MinInt} {
		check(t, machine(2, frames), api.ErrCount)
	}
	for _, cpus := range []int{0, 17, 1000} {
		m := machine(2, 8)
		m.CPUs = make([]int, cpus)
		check(t, m, api.ErrCount)
	}
	check(t, topo.Topo{}, api.ErrCount)
}

// P3.1: ErrNode.
func TestCheckOfCPUs(t *testing.T) {
	for _, node := range []int{-1, 2, 3, 8, math.MaxInt, math.MinInt} {
		for i := range 3 {
			m := machine(2, 8)
			m.CPUs = []int{0, 1, 0}
			m.CPUs[i] = node
			check(t, m, api.ErrNode)
		}
	}
}

// P3.1: ErrMatrix: rows and their numbers.
func TestCheckOfRows(t *testing.T) {
	m := machine(2, 8)
	m.Dist = nil
	check(t, m, api.ErrMatrix)
	for _, nodes := range []int{1, 2, 4, 8} {
		m := machine(nodes, 8)
		m.Dist = machine(3, 8).Dist
		m.CPUs = []int{0}
		check(t, m, api.ErrMatrix)
	}
	for i := range 3 {
		for _, row := range [][]int{nil, {10}, {11, 10}, {10, 11, 12, 13}, make([]int, 3)} {
			m := machine(3, 8)
			m.Dist[i] = row
			check(t, m, api.ErrMatrix)
		}
	}
}

// P3.1: ErrMatrix: distances.
func TestCheckOfDistances(t *testing.T) {
	for a := range 3 {
		for b := range 3 {
			for _, d := range []int{-1, 0, 1, 9, 10, 11, 12, 254, 255, 256, -10, math.MaxInt, math.MinInt} {
				m := machine(3, 8)
				m.Dist[a][b], m.Dist[b][a] = d, d
				want := api.ErrMatrix
				if a == b && d == 10 || a != b && d >= 11 && d <= 255 {
					want = api.OK
				}
				check(t, m, want)
			}
			m := machine(3, 8)
			if m.Dist[a][b]++; a != b {
				check(t, m, api.ErrMatrix)
			}
		}
	}
}

// P3.1: the order of Check's errors.
func TestCheckInOrder(t *testing.T) {
	bad := func(count, node, matrix bool) topo.Topo {
		m := machine(2, 8)
		if count {
			m.Frames = 3
		}
		if node {
			m.CPUs[1] = 2
		}
		if matrix {
			m.Dist[0][1] = 99
		}
		return m
	}
	check(t, bad(true, true, true), api.ErrCount)
	check(t, bad(true, false, true), api.ErrCount)
	check(t, bad(true, true, false), api.ErrCount)
	check(t, bad(false, true, true), api.ErrNode)
	check(t, bad(false, true, false), api.ErrNode)
	check(t, bad(false, false, true), api.ErrMatrix)
	m := bad(false, true, true)
	m.CPUs = nil
	check(t, m, api.ErrCount)
}

// P3.3: what is handed in isn't changed, its spare room neither.
func TestMachinesAreNotChanged(t *testing.T) {
	m := machine(3, 8)
	cpus := []int{0, 1, 2, 2, 77, 78}
	m.CPUs = cpus[:4]
	row := []int{10, m.Dist[0][1], m.Dist[0][2], 77}
	m.Dist[0] = row[:3]
	before := copied(m)
	check(t, m, api.OK)
	if !reflect.DeepEqual(m, before) || cpus[4] != 77 || cpus[5] != 78 || row[3] != 77 {
		t.Error("changed:", m, cpus, row)
	}
}
