package stats_test

import (
	"math"
	"slices"
	"testing"

	"messuage/api"
	"messuage/stats"
)

// noSizes are counts of nodes that no log has.
var noSizes = []int{0, -1, -2, -8, 9, 10, 16, 255, 256, 1 << 32, 1<<32 + 1, math.MaxInt, math.MaxInt - 1, math.MinInt, math.MinInt + 1}

// greatest is how many nodes a log may have, by the chapter.
const greatest = 8

// noNodes are numbers of no node of so many.
func noNodes(nodes int) []int {
	return []int{-1, -2, -nodes, nodes, nodes + 1, 8, 255, 256, 1 << 32, 1<<32 + 1, math.MaxInt, math.MaxInt - 1, math.MinInt, math.MinInt + 1}
}

func made(t *testing.T, nodes int) *stats.Log {
	t.Helper()
	l, e := stats.New(nodes)
	if e != api.OK || l == nil {
		t.Fatalf("New(%d) = %v, %d", nodes, l, e)
	}
	return l
}

func adds(t *testing.T, l *stats.Log, x stats.Event, want api.Errno) {
	t.Helper()
	if e := l.Add(x); e != want {
		t.Errorf("Add(%v) = %d, not %d", x, e, want)
	}
}

func hasCounts(t *testing.T, l *stats.Log, n int, want stats.Counts) {
	t.Helper()
	if c, e := l.Node(n); c != want || e != api.OK {
		t.Errorf("Node(%d) = %v, %d, not %v", n, c, e, want)
	}
}

func refusesNode(t *testing.T, l *stats.Log, n int, want api.Errno) {
	t.Helper()
	if c, e := l.Node(n); c != (stats.Counts{}) || e != want {
		t.Errorf("Node(%d) = %v, %d, not %d", n, c, e, want)
	}
}

func hasEvents(t *testing.T, l *stats.Log, want []stats.Event) {
	t.Helper()
	if got := l.Events(); !slices.Equal(got, want) {
		t.Errorf("Events() = %v, not %v", got, want)
	}
}

// everyEvent is each event that a log of so many nodes may have.
func everyEvent(nodes int) []stats.Event {
	var list []stats.Event
	for node := range nodes {
		for start := range nodes {
			for own := range nodes {
				for _, interleave := range []bool{false, true} {
					list = append(list, stats.Event{Node: node, Start: start, Own: own, Interleave: interleave})
				}
			}
		}
	}
	return list
}

// countsOf are a node's counts, by the chapter's words, one after the other.
func countsOf(events []stats.Event, n int) stats.Counts {
	number := func(is func(x stats.Event) bool) int {
		found := 0
		for _, x := range events {
			if is(x) {
				found++
			}
		}
		return found
	}
	return stats.Counts{
		Hit:        number(func(x stats.Event) bool { return x.Node == n && x.Start == n }),
		Miss:       number(func(x stats.Event) bool { return x.Node == n && x.Start != n }),
		Foreign:    number(func(x stats.Event) bool { return x.Start == n && x.Node != n }),
		Local:      number(func(x stats.Event) bool { return x.Node == n && x.Own == n }),
		Other:      number(func(x stats.Event) bool { return x.Node == n && x.Own != n }),
		Interleave: number(func(x stats.Event) bool { return x.Node == n && x.Start == n && x.Interleave }),
	}
}

// stands tells whether a log has just these events and their counts, and whether the counts come to as many.
func stands(t *testing.T, l *stats.Log, nodes int, events []stats.Event) {
	t.Helper()
	hasEvents(t, l, events)
	var sum stats.Counts
	for n := range nodes {
		hasCounts(t, l, n, countsOf(events, n))
		c, _ := l.Node(n)
		sum.Hit += c.Hit
		sum.Miss += c.Miss
		sum.Foreign += c.Foreign
		sum.Local += c.Local
		sum.Other += c.Other
	}
	if sum.Hit+sum.Miss != len(events) || sum.Local+sum.Other != len(events) || sum.Foreign != sum.Miss {
		t.Errorf("counts of %d events: %v", len(events), sum)
	}
}

// P16.1: New, of each count of nodes: no event, and noughts.
func TestNew(t *testing.T) {
	if greatest != api.MaxNodes {
		t.Fatal("limits")
	}
	for nodes := 1; nodes <= greatest; nodes++ {
		l := made(t, nodes)
		stands(t, l, nodes, nil)
		for n := range nodes {
			hasCounts(t, l, n, stats.Counts{})
		}
	}
}

// P16.1, P1: counts of nodes that no log has.
func TestNewRefuses(t *testing.T) {
	for _, nodes := range noSizes {
		if l, e := stats.New(nodes); l != nil || e != api.ErrCount {
			t.Errorf("New(%d) = %v, %d", nodes, l, e)
		}
	}
}

// P16.1: what one event counts, by hand: where the search began, and whose CPU it is, each alike or not.
func TestOneEvent(t *testing.T) {
	for _, test := range []struct {
		event stats.Event
		want  [3]stats.Counts
	}{
		{stats.Event{Node: 0, Start: 0, Own: 0}, [3]stats.Counts{{Hit: 1, Local: 1}}},
		{stats.Event{Node: 0, Start: 0, Own: 0, Interleave: true}, [3]stats.Counts{{Hit: 1, Local: 1, Interleave: 1}}},
		{stats.Event{Node: 2, Start: 2, Own: 1}, [3]stats.Counts{2: {Hit: 1, Other: 1}}},
		{stats.Event{Node: 2, Start: 2, Own: 1, Interleave: true}, [3]stats.Counts{2: {Hit: 1, Other: 1, Interleave: 1}}},
		{stats.Event{Node: 1, Start: 2, Own: 1}, [3]stats.Counts{1: {Miss: 1, Local: 1}, 2: {Foreign: 1}}},
		{stats.Event{Node: 1, Start: 2, Own: 1, Interleave: true}, [3]stats.Counts{1: {Miss: 1, Local: 1}, 2: {Foreign: 1}}},
		{stats.Event{Node: 0, Start: 1, Own: 2}, [3]stats.Counts{0: {Miss: 1, Other: 1}, 1: {Foreign: 1}}},
		{stats.Event{Node: 0, Start: 1, Own: 2, Interleave: true}, [3]stats.Counts{0: {Miss: 1, Other: 1}, 1: {Foreign: 1}}},
		{stats.Event{Node: 2, Start: 0, Own: 0}, [3]stats.Counts{0: {Foreign: 1}, 2: {Miss: 1, Other: 1}}},
	} {
		l := made(t, 3)
		adds(t, l, test.event, api.OK)
		for n, want := range test.want {
			hasCounts(t, l, n, want)
		}
		hasEvents(t, l, []stats.Event{test.event})
	}
}

// P16.1: the document's example.
func TestExample(t *testing.T) {
	l := made(t, 2)
	adds(t, l, stats.Event{Node: 1}, api.OK)
	hasCounts(t, l, 0, stats.Counts{Foreign: 1})
	hasCounts(t, l, 1, stats.Counts{Miss: 1, Other: 1})
}

// P16.1, P16.2: each event alone, of each count of nodes, the first and the last node among them.
func TestEachEvent(t *testing.T) {
	for nodes := 1; nodes <= greatest; nodes++ {
		for _, x := range everyEvent(nodes) {
			l := made(t, nodes)
			adds(t, l, x, api.OK)
			stands(t, l, nodes, []stats.Event{x})
		}
	}
}

// P16.1, P16.2: all events in a row.
func TestAllEvents(t *testing.T) {
	for nodes := 1; nodes <= greatest; nodes++ {
		l := made(t, nodes)
		list := everyEvent(nodes)
		for _, x := range list {
			adds(t, l, x, api.OK)
		}
		stands(t, l, nodes, list)
	}
}

// P16.1, P16.2: many events, with wrong ones between them: these are refused and counted nowhere.
func TestManySteps(t *testing.T) {
	for nodes := 1; nodes <= greatest; nodes++ {
		l := made(t, nodes)
		var list []stats.Event
		seed := uint32(nodes)
		next := func(n int) int {
			seed = seed*1664525 + 1013904223
			return int(seed>>8) % n
		}
		for range 400 {
			x := stats.Event{Node: next(nodes), Start: next(nodes), Own: next(nodes), Interleave: next(2) == 0}
			if next(5) == 0 {
				x.Start = nodes + next(3)
				adds(t, l, x, api.ErrNode)
			} else {
				adds(t, l, x, api.OK)
				list = append(list, x)
			}
			stands(t, l, nodes, list)
		}
	}
}

// P16.1, P1: an event with one part, or more, that is no node is refused, and changes nothing.
func TestAddRefuses(t *testing.T) {
	for nodes := 1; nodes <= greatest; nodes++ {
		l := made(t, nodes)
		last := nodes - 1
		kept := []stats.Event{{Node: last, Start: 0, Own: last}, {Interleave: true}}
		for _, x := range kept {
			adds(t, l, x, api.OK)
		}
		for _, no := range noNodes(nodes) {
			for _, interleave := range []bool{false, true} {
				adds(t, l, stats.Event{Node: no, Start: last, Own: last, Interleave: interleave}, api.ErrNode)
				adds(t, l, stats.Event{Node: last, Start: no, Own: last, Interleave: interleave}, api.ErrNode)
				adds(t, l, stats.Event{Node: last, Start: last, Own: no, Interleave: interleave}, api.ErrNode)
				adds(t, l, stats.Event{Node: no, Start: no, Own: last, Interleave: interleave}, api.ErrNode)
				adds(t, l, stats.Event{Node: no, Start: no, Own: no, Interleave: interleave}, api.ErrNode)
			}
		}
		stands(t, l, nodes, kept)
	}
}

// P16.1, P1: Node of what is no node.
func TestNoNode(t *testing.T) {
	for nodes := 1; nodes <= greatest; nodes++ {
		l := made(t, nodes)
		for range 2 {
			for _, n := range noNodes(nodes) {
				refusesNode(t, l, n, api.ErrNode)
			}
			adds(t, l, stats.Event{}, api.OK)
		}
	}
}

// P16.3: what Events answers is new memory: what is done to it changes neither the log nor another answer.
func TestEventsAreNewMemory(t *testing.T) {
	l := made(t, 2)
	var list []stats.Event
	for i := range 20 {
		x := stats.Event{Node: i % 2, Start: i / 2 % 2, Own: i / 4 % 2, Interleave: i%3 == 0}
		adds(t, l, x, api.OK)
		list = append(list, x)
		spoilt, other := l.Events(), l.Events()
		spoilt = spoilt[:cap(spoilt)]
		for k := range spoilt {
			spoilt[k] = stats.Event{Node: -1}
		}
		if !slices.Equal(other, list) {
			t.Errorf("answers share memory: %v", other)
		}
		stands(t, l, 2, list)
	}
}

// P16.3: what is added later changes no answer; nor does what is appended to one come into the log.
func TestAnswersStand(t *testing.T) {
	l := made(t, 2)
	for i := range 20 {
		before := l.Events()
		counts, _ := l.Node(0)
		grown := append(before, stats.Event{Node: 1})
		adds(t, l, stats.Event{}, api.OK)
		if len(before) != i || len(grown) != i+1 || grown[i].Node != 1 || counts.Hit != i {
			t.Errorf("answers are now %v, %v", grown, counts)
		}
		if all := l.Events(); len(all) != i+1 || all[i].Node != 0 {
			t.Errorf("Events() = %v", all)
		}
	}
}

// Rule 5: logs are apart from each other.
func TestApart(t *testing.T) {
	one, other := made(t, 2), made(t, 2)
	adds(t, one, stats.Event{Node: 1}, api.OK)
	stands(t, other, 2, nil)
	adds(t, other, stats.Event{}, api.OK)
	stands(t, one, 2, []stats.Event{{Node: 1}})
	stands(t, other, 2, []stats.Event{{}})
}

// asNil tells whether a log answers as the chapter says of a nil one.
func asNil(t *testing.T, l *stats.Log) {
	t.Helper()
	for _, n := range append(noNodes(1), 0, 1, 7) {
		adds(t, l, stats.Event{Node: n, Start: n, Own: n}, api.ErrArg)
		adds(t, l, stats.Event{Node: 0, Start: 0, Own: n, Interleave: true}, api.ErrArg)
		refusesNode(t, l, n, api.ErrArg)
	}
	hasEvents(t, l, nil)
}

// P16.1, P1: a nil log.
func TestNil(t *testing.T) {
	asNil(t, nil)
}

// P1: a log that New didn't make has no nodes, and answers as a nil one.
func TestNotMade(t *testing.T) {
	asNil(t, &stats.Log{})
	asNil(t, new(stats.Log))
}
