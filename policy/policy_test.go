package policy_test

import (
	"math"
	"testing"

	"messuage/api"
	"messuage/nodeset"
	"messuage/policy"
)

// noCounts are counts that no machine has of nodes.
var noCounts = []int{0, -1, -8, 9, 10, 64, 1 << 32, 1<<32 + 1, math.MaxInt, math.MinInt, math.MinInt + 1}

// noModes are numbers of no mode.
var noModes = []int{-1, -2, -3, 4, 5, 255, 256, 257, 1 << 32, 1<<32 + 1, math.MaxInt, math.MinInt, math.MinInt + 1}

// cursors are those of nodes, and others, the greatest and the least among them.
var cursors = []int{0, 1, 2, 3, 4, 5, 6, 7, 8, 9, 255, 1 << 32, 1<<32 + 1, math.MaxInt, -1, -2, -9, math.MinInt, math.MinInt + 1}

// noNodes are numbers of no node of n.
func noNodes(n int) []int {
	return []int{-1, -n, n, n + 1, 8, 9, 1 << 32, 1<<32 + 1, math.MaxInt, math.MinInt, math.MinInt + 1}
}

// someNode is a number of no node, for what isn't looked at.
const someNode = 99

// oddPolicies are policies of all kinds, right ones on some counts of nodes and wrong ones on all.
func oddPolicies() []policy.Policy {
	odd := []policy.Policy{{}, {Set: 255, Node: someNode}}
	for s := range 256 {
		odd = append(odd,
			policy.Policy{Mode: policy.Bind, Set: nodeset.Set(s), Node: someNode},
			policy.Policy{Mode: policy.Interleave, Set: nodeset.Set(s), Node: -1})
	}
	for node := range 8 {
		odd = append(odd, policy.Policy{Mode: policy.Preferred, Node: node})
	}
	for _, node := range noNodes(8) {
		odd = append(odd, policy.Policy{Mode: policy.Preferred, Set: 1, Node: node})
	}
	for _, mode := range noModes {
		odd = append(odd, policy.Policy{Mode: mode}, policy.Policy{Mode: mode, Set: 255, Node: someNode})
	}
	return odd
}

// fault is Check by its words: count, then mode and set, then nodes.
func fault(p policy.Policy, nodes int) api.Errno {
	if nodes < 1 || nodes > 8 {
		return api.ErrCount
	}
	ofSet := p.Mode == policy.Bind || p.Mode == policy.Interleave
	if p.Mode < 0 || p.Mode > 3 || ofSet && p.Set == 0 {
		return api.ErrArg
	}
	if ofSet && int(p.Set) >= 1<<nodes || p.Mode == policy.Preferred && (p.Node < 0 || p.Node >= nodes) {
		return api.ErrNode
	}
	return api.OK
}

// behind is the node of a set behind a cursor, by its words: the least above it, or the least of all.
func behind(s nodeset.Set, cursor int) int {
	least := -1
	for node := 7; node >= 0; node-- {
		if s>>node&1 == 1 {
			least = node
		}
	}
	for node := range 8 {
		if s>>node&1 == 1 && node > cursor {
			return node
		}
	}
	return least
}

func checks(t *testing.T, p policy.Policy, nodes int, want api.Errno) {
	t.Helper()
	if e := policy.Check(p, nodes); e != want {
		t.Errorf("Check(%v, %d) = %d, not %d", p, nodes, e, want)
	}
}

func permits(t *testing.T, p policy.Policy, nodes int, want nodeset.Set, wantE api.Errno) {
	t.Helper()
	if s, e := policy.Permitted(p, nodes); s != want || e != wantE {
		t.Errorf("Permitted(%v, %d) = %d, %d, not %d, %d", p, nodes, s, e, want, wantE)
	}
}

func starts(t *testing.T, p policy.Policy, nodes, own, cursor, want, wantCursor int) {
	t.Helper()
	if n, c, e := policy.Start(p, nodes, own, cursor); n != want || c != wantCursor || e != api.OK {
		t.Errorf("Start(%v, %d, %d, %d) = %d, %d, %d, not %d, %d", p, nodes, own, cursor, n, c, e, want, wantCursor)
	}
}

func refusesStart(t *testing.T, p policy.Policy, nodes, own, cursor int, want api.Errno) {
	t.Helper()
	if n, c, e := policy.Start(p, nodes, own, cursor); n != 0 || c != 0 || e != want {
		t.Errorf("Start(%v, %d, %d, %d) = %d, %d, %d, not 0, 0, %d", p, nodes, own, cursor, n, c, e, want)
	}
}

// P10.1: the modes have their numbers, and a policy that says nothing is Default.
func TestModes(t *testing.T) {
	if policy.Default != 0 || policy.Bind != 1 || policy.Interleave != 2 || policy.Preferred != 3 {
		t.Error("modes")
	}
	checks(t, policy.Policy{}, 1, api.OK)
	permits(t, policy.Policy{}, 1, 1, api.OK)
	starts(t, policy.Policy{}, 1, 0, 5, 0, 5)
}

// P10.1: Check, some by hand: one node alone, all nodes, a set with one node.
func TestCheck(t *testing.T) {
	checks(t, policy.Policy{Mode: policy.Bind, Set: 1}, 1, api.OK)
	checks(t, policy.Policy{Mode: policy.Bind, Set: 2}, 1, api.ErrNode)
	checks(t, policy.Policy{Mode: policy.Bind, Set: 3}, 1, api.ErrNode)
	checks(t, policy.Policy{Mode: policy.Bind, Set: 255}, 8, api.OK)
	checks(t, policy.Policy{Mode: policy.Bind, Set: 255}, 7, api.ErrNode)
	checks(t, policy.Policy{Mode: policy.Bind, Set: 128}, 8, api.OK)
	checks(t, policy.Policy{Mode: policy.Bind}, 8, api.ErrArg)
	checks(t, policy.Policy{Mode: policy.Interleave, Set: 4}, 3, api.OK)
	checks(t, policy.Policy{Mode: policy.Interleave, Set: 4}, 2, api.ErrNode)
	checks(t, policy.Policy{Mode: policy.Interleave}, 8, api.ErrArg)
	checks(t, policy.Policy{Mode: policy.Preferred, Node: 7}, 8, api.OK)
	checks(t, policy.Policy{Mode: policy.Preferred, Node: 7}, 7, api.ErrNode)
	checks(t, policy.Policy{Mode: policy.Preferred, Node: -1}, 8, api.ErrNode)
}

// P10.1: Check and Permitted, of policies of all kinds on all counts of nodes, wrong ones among both.
func TestCheckAndPermitted(t *testing.T) {
	for nodes := 1; nodes <= 8; nodes++ {
		for _, p := range oddPolicies() {
			want := fault(p, nodes)
			checks(t, p, nodes, want)
			switch {
			case want != api.OK:
				permits(t, p, nodes, 0, want)
			case p.Mode == policy.Bind:
				permits(t, p, nodes, p.Set, api.OK)
			default:
				permits(t, p, nodes, nodeset.Set(1<<nodes-1), api.OK)
			}
		}
	}
}

// P10.1: a count of nodes that can't be is told ahead of all else.
func TestNoCounts(t *testing.T) {
	for _, nodes := range noCounts {
		for _, p := range oddPolicies() {
			checks(t, p, nodes, api.ErrCount)
			permits(t, p, nodes, 0, api.ErrCount)
			for _, own := range []int{0, nodes, -1} {
				refusesStart(t, p, nodes, own, 3, api.ErrCount)
			}
		}
	}
}

// P10.1: what a mode doesn't have isn't looked at.
func TestWhatAModeHasNotIsNotLookedAt(t *testing.T) {
	for _, node := range noNodes(2) {
		for _, p := range []policy.Policy{
			{Mode: policy.Default, Set: 252, Node: node},
			{Mode: policy.Bind, Set: 3, Node: node},
			{Mode: policy.Interleave, Set: 3, Node: node},
		} {
			checks(t, p, 2, api.OK)
			permits(t, p, 2, 3, api.OK)
		}
		starts(t, policy.Policy{Set: 252, Node: node}, 2, 1, 6, 1, 6)
		starts(t, policy.Policy{Mode: policy.Bind, Set: 1, Node: node}, 2, 1, 6, 1, 6)
		starts(t, policy.Policy{Mode: policy.Interleave, Set: 1, Node: node}, 2, 1, 6, 0, 0)
	}
	for s := range 256 {
		p := policy.Policy{Mode: policy.Preferred, Set: nodeset.Set(s), Node: 1}
		checks(t, p, 2, api.OK)
		permits(t, p, 2, 3, api.OK)
		starts(t, p, 2, 0, 6, 1, 6)
	}
}

// P10.1: Start, of all right policies, for CPUs of all nodes, at all kinds of cursors.
func TestStart(t *testing.T) {
	for nodes := 1; nodes <= 8; nodes++ {
		for _, p := range oddPolicies() {
			if fault(p, nodes) != api.OK {
				continue
			}
			for own := range nodes {
				for _, cursor := range cursors {
					testStart(t, p, nodes, own, cursor)
				}
			}
		}
	}
}

func testStart(t *testing.T, p policy.Policy, nodes, own, cursor int) {
	t.Helper()
	switch p.Mode {
	case policy.Interleave:
		next := behind(p.Set, cursor)
		starts(t, p, nodes, own, cursor, next, next)
	case policy.Preferred:
		starts(t, p, nodes, own, cursor, p.Node, cursor)
	default:
		starts(t, p, nodes, own, cursor, own, cursor)
	}
}

// P10.1: the start of a Bind is the CPU's node, though the set hasn't it.
func TestStartOfBindIsOwn(t *testing.T) {
	starts(t, policy.Policy{Mode: policy.Bind, Set: 1}, 4, 3, 2, 3, 2)
}

// P10.1: Start's errors: Check's first, and then that own isn't a node, of all modes.
func TestStartErrors(t *testing.T) {
	for nodes := 1; nodes <= 8; nodes++ {
		for _, p := range oddPolicies() {
			want := fault(p, nodes)
			if want != api.OK {
				refusesStart(t, p, nodes, 0, 1, want)
			} else {
				want = api.ErrNode
			}
			for _, own := range noNodes(nodes) {
				refusesStart(t, p, nodes, own, 1, want)
			}
		}
	}
}

// P10.1: the document's example.
func TestExample(t *testing.T) {
	p := policy.Policy{Mode: policy.Interleave, Set: 5}
	starts(t, p, 3, 1, 0, 2, 2)
	starts(t, p, 3, 1, 2, 0, 0)
}

// P10.2: of as many starts as the set has nodes each begins at another one, from whichever cursor on; then they come again.
func TestInterleaveGoesRound(t *testing.T) {
	for s := 1; s < 256; s++ {
		p := policy.Policy{Mode: policy.Interleave, Set: nodeset.Set(s)}
		for _, first := range cursors {
			cursor := first
			for range 3 {
				cursor = round(t, p, cursor)
			}
		}
	}
}

// round goes once round the set, and is the cursor behind it.
func round(t *testing.T, p policy.Policy, cursor int) int {
	t.Helper()
	var seen nodeset.Set
	for range nodeset.Count(p.Set) {
		node, next, e := policy.Start(p, 8, 0, cursor)
		if e != api.OK || next != node || nodeset.Has(seen, node) || !nodeset.Has(p.Set, node) {
			t.Fatalf("Start(%v) at %d = %d, %d, %d, behind %d", p, cursor, node, next, e, seen)
		}
		seen |= 1 << node
		cursor = next
	}
	return cursor
}
