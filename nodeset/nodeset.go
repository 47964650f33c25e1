// Package nodeset is layer 1: sets of nodes: see shared/doc/01-nodeset.md.
package nodeset

import (
	"math/bits"
	"strconv"
	"strings"

	"messuage/api"
)

// Set is one: bit n for node n.
type Set uint8

// none is the text of a set without a node.
const none = "none"

// Of is the set of these nodes; one may be named again.
func Of(nodes []int) (Set, api.Errno) {
	var s Set
	for _, n := range nodes {
		if !isNode(n) {
			return 0, api.ErrNode
		}
		s |= 1 << n
	}
	return s, api.OK
}

// All is the set of nodes 0 to n - 1.
func All(n int) (Set, api.Errno) {
	if n < 0 || n > api.MaxNodes {
		return 0, api.ErrCount
	}
	return between(0, n-1), api.OK
}

// Has tells whether node is one of the set.
func Has(s Set, node int) bool {
	return isNode(node) && s>>node&1 == 1
}

// List is the set's nodes, rising.
func List(s Set) []int {
	var nodes []int
	for node := range api.MaxNodes {
		if Has(s, node) {
			nodes = append(nodes, node)
		}
	}
	return nodes
}

// Count is how many nodes the set has.
func Count(s Set) int {
	return bits.OnesCount8(uint8(s))
}

// Next is the first node of the set behind node, going round; false if the set has none.
func Next(s Set, node int) (int, bool) {
	nodes := List(s)
	if len(nodes) == 0 {
		return 0, false
	}
	for _, n := range nodes {
		if n > node {
			return n, true
		}
	}
	return nodes[0], true
}

// Parse is the set that a text tells. Its parts may overlap, and stand in any order.
func Parse(text string) (Set, api.Errno) {
	if text == none {
		return 0, api.OK
	}
	var s Set
	rest, more := text, true
	for more {
		var part string
		part, rest, more = strings.Cut(rest, ",")
		p, ok := parsePart(part)
		if !ok {
			return 0, api.ErrForm
		}
		s |= p
	}
	return s, api.OK
}

// Text is the set's text.
func Text(s Set) string {
	if s == 0 {
		return none
	}
	var parts []string
	for first := 0; first < api.MaxNodes; first++ {
		if !Has(s, first) {
			continue
		}
		last := lastBeside(s, first)
		parts = append(parts, runParts(first, last)...)
		first = last
	}
	return strings.Join(parts, ",")
}

func isNode(n int) bool {
	return n >= 0 && n < api.MaxNodes
}

// parsePart reads one node, or two with "-" between.
func parsePart(part string) (Set, bool) {
	low, high, isRange := strings.Cut(part, "-")
	first, ok := parseNode(low)
	if !ok {
		return 0, false
	}
	if !isRange {
		return between(first, first), true
	}
	last, ok := parseNode(high)
	if !ok || first > last {
		return 0, false
	}
	return between(first, last), true
}

func parseNode(text string) (int, bool) {
	if len(text) != 1 || text[0] < '0' || !isNode(int(text[0]-'0')) {
		return 0, false
	}
	return int(text[0] - '0'), true
}

// between is the set of all nodes from first to last; of none, if last is below first.
func between(first, last int) Set {
	var s Set
	for node := first; node <= last; node++ {
		s |= 1 << node
	}
	return s
}

// lastBeside is the last node of those that stand side by side from first on.
func lastBeside(s Set, first int) int {
	last := first
	for Has(s, last+1) {
		last++
	}
	return last
}

// runParts is the text of nodes side by side, in parts: only three or more are drawn together.
func runParts(first, last int) []string {
	if last-first >= 2 {
		return []string{strconv.Itoa(first) + "-" + strconv.Itoa(last)}
	}
	var parts []string
	for node := first; node <= last; node++ {
		parts = append(parts, strconv.Itoa(node))
	}
	return parts
}
