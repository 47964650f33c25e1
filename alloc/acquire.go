package alloc

import (
	"messuage/api"
	"messuage/choose"
	"messuage/policy"
	"messuage/stats"
)

// acquire takes a run of frames for a CPU, by a policy: the first frame and the node; false if no node may give it.
func (m *Machine) acquire(cpu, order int, p policy.Policy) (frame, node int, found bool) {
	own := &m.cpus[cpu]
	choice, e := choose.Node(m.topo, p, cpu, own.cursor, m.heap.All(order))
	// The cursor goes on even where no node is found.
	own.cursor = choice.Cursor
	if e != api.OK {
		return 0, 0, false
	}
	frame, e = m.heap.Take(choice.Node, order)
	if e != api.OK {
		return 0, 0, false
	}
	m.log.Add(stats.Event{
		Node: choice.Node, Start: choice.Start, Own: m.topo.CPUs[cpu], Interleave: p.Mode == policy.Interleave,
	})
	return frame, choice.Node, true
}

// twice tries, and if that fails once more, when what the CPU's cache and empty spans hold has become free.
func (m *Machine) twice(cpu int, try func() bool) bool {
	if try() {
		return true
	}
	m.Flush(cpu)
	m.Release()
	return try()
}
