// Package zone is layer 4: which node comes first: see shared/doc/04-zone.md.
package zone

import (
	"cmp"
	"slices"

	"messuage/api"
	"messuage/nodeset"
	"messuage/topo"
)

// Order is all nodes of the machine, as they are near to node.
func Order(t topo.Topo, node int) ([]int, api.Errno) {
	if e := topo.Check(t); e != api.OK {
		return nil, e
	}
	if node < 0 || node >= t.Nodes {
		return nil, api.ErrNode
	}
	nodes := make([]int, t.Nodes)
	for n := range nodes {
		nodes[n] = n
	}
	distances := t.Dist[node]
	slices.SortFunc(nodes, func(a, b int) int {
		return cmp.Or(cmp.Compare(distances[a], distances[b]), cmp.Compare(a, b))
	})
	return nodes, api.OK
}

// Within is Order's nodes that are in the set.
func Within(t topo.Topo, node int, s nodeset.Set) ([]int, api.Errno) {
	nodes, e := Order(t, node)
	if e != api.OK {
		return nil, e
	}
	var within []int
	for _, n := range nodes {
		if nodeset.Has(s, n) {
			within = append(within, n)
		}
	}
	return within, api.OK
}

// Nearest is the first of Within's nodes for which may, by node, is true; false if there is none.
func Nearest(t topo.Topo, node int, s nodeset.Set, may []bool) (int, bool) {
	// Without an order there is nothing to go through.
	nodes, _ := Within(t, node, s)
	for _, n := range nodes {
		if n < len(may) && may[n] {
			return n, true
		}
	}
	return 0, false
}
