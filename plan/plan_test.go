package plan_test

import (
	"fmt"
	"math"
	"slices"
	"testing"

	"messuage/api"
	"messuage/plan"
)

// odd are numbers at the ends of all that an int can be.
var odd = []int{1 << 32, 1<<32 + 1, 1 << 61, math.MaxInt, math.MaxInt - 1, math.MinInt, math.MinInt + 1}

// free are caps that are in no way.
func free(n int) []int {
	return slices.Repeat([]int{1000}, n)
}

func even(t *testing.T, loads, caps []int, want ...plan.Move) {
	t.Helper()
	if got, e := plan.Even(loads, caps); !slices.Equal(got, want) || e != api.OK {
		t.Errorf("Even(%v, %v) = %v, %d, not %v", loads, caps, got, e, want)
	}
}

func refusesEven(t *testing.T, loads, caps []int, want api.Errno) {
	t.Helper()
	if got, e := plan.Even(loads, caps); got != nil || e != want {
		t.Errorf("Even(%v, %v) = %v, %d, not %d", loads, caps, got, e, want)
	}
}

func apply(t *testing.T, loads []int, moves []plan.Move, want ...int) {
	t.Helper()
	if got, e := plan.Apply(loads, moves); !slices.Equal(got, want) || e != api.OK {
		t.Errorf("Apply(%v, %v) = %v, %d, not %v", loads, moves, got, e, want)
	}
}

func refusesApply(t *testing.T, loads []int, moves []plan.Move, want api.Errno) {
	t.Helper()
	if got, e := plan.Apply(loads, moves); got != nil || e != want {
		t.Errorf("Apply(%v, %v) = %v, %d, not %d", loads, moves, got, e, want)
	}
}

func spread(t *testing.T, want int, loads ...int) {
	t.Helper()
	if got := plan.Spread(loads); got != want {
		t.Errorf("Spread(%v) = %d, not %d", loads, got, want)
	}
}

// P30.1: the document's example.
func TestExample(t *testing.T) {
	even(t, []int{3, 0}, []int{9, 9}, plan.Move{From: 0, To: 1})
}

// P30.1: what is even already stays: one load, the same ones, and those that differ by one.
func TestNothingToMove(t *testing.T) {
	for _, load := range []int{0, 1, 2, 999, 1000} {
		even(t, []int{load}, []int{1000})
		even(t, []int{load}, []int{load})
		for n := 1; n <= 8; n++ {
			even(t, slices.Repeat([]int{load}, n), free(n))
			even(t, slices.Repeat([]int{load}, n), slices.Repeat([]int{load}, n))
		}
	}
	even(t, []int{4, 5}, free(2))
	even(t, []int{5, 4}, free(2))
	even(t, []int{1000, 999, 1000, 999, 999, 999, 1000, 999}, free(8))
}

// P30.1: one unit a move, from the greatest to the least; of several the lowest number each.
func TestMoves(t *testing.T) {
	even(t, []int{0, 2}, free(2), plan.Move{From: 1, To: 0})
	even(t, []int{4, 0}, free(2), plan.Move{From: 0, To: 1}, plan.Move{From: 0, To: 1})
	even(t, []int{4, 4, 0, 0}, free(4), plan.Move{From: 0, To: 2}, plan.Move{From: 1, To: 3}, plan.Move{From: 0, To: 2}, plan.Move{From: 1, To: 3})
	even(t, []int{0, 0, 4, 4}, free(4), plan.Move{From: 2, To: 0}, plan.Move{From: 3, To: 1}, plan.Move{From: 2, To: 0}, plan.Move{From: 3, To: 1})
	even(t, []int{3, 1, 3, 1}, free(4), plan.Move{From: 0, To: 1}, plan.Move{From: 2, To: 3})
	even(t, []int{2, 5, 2}, free(3), plan.Move{From: 1, To: 0}, plan.Move{From: 1, To: 2})
	even(t, []int{0, 1, 2, 3, 4, 5, 6, 7}, free(8),
		plan.Move{From: 7, To: 0}, plan.Move{From: 6, To: 0}, plan.Move{From: 7, To: 1}, plan.Move{From: 5, To: 0},
		plan.Move{From: 6, To: 1}, plan.Move{From: 7, To: 2})
}

// P30.1: as far as a load can be.
func TestGreatLoads(t *testing.T) {
	even(t, []int{1000, 0}, free(2), slices.Repeat([]plan.Move{{From: 0, To: 1}}, 500)...)
	even(t, []int{0, 999}, free(2), slices.Repeat([]plan.Move{{From: 1, To: 0}}, 499)...)
	var want []plan.Move
	for i := range 875 {
		want = append(want, plan.Move{From: 7, To: i % 7})
	}
	even(t, []int{0, 0, 0, 0, 0, 0, 0, 1000}, free(8), want...)
}

// P30.1: caps in the way: what is at its cap takes nothing, though it has the least; another one does, as long as it is two below.
func TestCaps(t *testing.T) {
	even(t, []int{5, 0}, []int{5, 0})
	even(t, []int{5, 0}, []int{9, 1}, plan.Move{From: 0, To: 1})
	even(t, []int{5, 0}, []int{5, 2}, plan.Move{From: 0, To: 1}, plan.Move{From: 0, To: 1})
	even(t, []int{5, 0}, []int{5, 3}, plan.Move{From: 0, To: 1}, plan.Move{From: 0, To: 1})
	even(t, []int{5, 1, 0}, []int{9, 9, 1}, plan.Move{From: 0, To: 2}, plan.Move{From: 0, To: 1})
	even(t, []int{6, 0, 5}, []int{6, 0, 5})
	even(t, []int{6, 0, 4}, []int{6, 0, 5}, plan.Move{From: 0, To: 2})
	even(t, []int{6, 0, 4}, []int{6, 0, 4})
	// What is below its cap alone is the greatest itself.
	even(t, []int{3, 1, 0}, []int{4, 1, 0})
	// A cap doesn't keep a load from giving.
	even(t, []int{7, 7, 1}, []int{7, 7, 3}, plan.Move{From: 0, To: 2}, plan.Move{From: 1, To: 2})
	even(t, []int{1000, 1000, 0, 0}, []int{1000, 1000, 0, 1}, plan.Move{From: 0, To: 3})
}

// P30.1: 1 to 8 loads, and as many caps; counts are looked at ahead of what stands there.
func TestWrongCounts(t *testing.T) {
	for _, l := range [][]int{nil, {}} {
		for _, caps := range [][]int{nil, {}, {1}, {-1}, {1001, 5}} {
			refusesEven(t, l, caps, api.ErrCount)
		}
	}
	for n := 1; n <= 20; n++ {
		for c := 0; c <= 20; c++ {
			for _, load := range []int{0, 1000, 1001, -1} {
				if n != c || n > 8 {
					refusesEven(t, slices.Repeat([]int{load}, n), free(c), api.ErrCount)
					refusesEven(t, slices.Repeat([]int{load}, n), slices.Repeat([]int{load - 1}, c), api.ErrCount)
				}
			}
		}
	}
}

// P30.1: loads and caps are 0 to 1000, and no load is above its cap, whichever node's it is.
func TestWrongNumbers(t *testing.T) {
	for n := 1; n <= 8; n++ {
		for at := range n {
			with := func(load, limit int) (loads, caps []int) {
				loads, caps = slices.Repeat([]int{5}, n), slices.Repeat([]int{7}, n)
				loads[at], caps[at] = load, limit
				return loads, caps
			}
			for _, wrong := range append([]int{-1, -2, -1000, 1001, 1002}, odd...) {
				for _, other := range []int{0, 5, 1000, wrong} {
					loads, caps := with(wrong, other)
					refusesEven(t, loads, caps, api.ErrArg)
					loads, caps = with(other, wrong)
					refusesEven(t, loads, caps, api.ErrArg)
				}
			}
			for _, limit := range []int{0, 1, 500, 999} {
				loads, caps := with(limit+1, limit)
				refusesEven(t, loads, caps, api.ErrArg)
				loads, caps = with(limit, limit)
				if _, e := plan.Even(loads, caps); e != api.OK {
					t.Errorf("Even(%v, %v): %d", loads, caps, e)
				}
			}
		}
	}
}

// all calls with each list of n numbers from 0 to top.
func all(n, top int, with func([]int)) {
	list := make([]int, n)
	for {
		with(slices.Clone(list))
		at := 0
		for at < n && list[at] == top {
			list[at] = 0
			at++
		}
		if at == n {
			return
		}
		list[at]++
	}
}

// byWords is the moves that the chapter's words tell: of all that could be, From and To are looked for among all nodes.
func byWords(loads, caps []int) []plan.Move {
	loads = slices.Clone(loads)
	var moves []plan.Move
	for {
		from, to := -1, -1
		for node := len(loads) - 1; node >= 0; node-- {
			if from < 0 || loads[node] >= loads[from] {
				from = node
			}
			if loads[node] != caps[node] && (to < 0 || loads[node] <= loads[to]) {
				to = node
			}
		}
		if to < 0 || loads[from]-loads[to] < 2 {
			return moves
		}
		loads[from], loads[to] = loads[from]-1, loads[to]+1
		moves = append(moves, plan.Move{From: from, To: to})
	}
}

// checkEven holds what Even tells against the words of the chapter, and its promises.
func checkEven(t *testing.T, loads, caps []int) {
	t.Helper()
	moves, e := plan.Even(loads, caps)
	if want := byWords(loads, caps); !slices.Equal(moves, want) || e != api.OK {
		t.Fatalf("Even(%v, %v) = %v, %d, not %v", loads, caps, moves, e, want)
	}
	sum := func(l []int) (n int) {
		for _, x := range l {
			n += x
		}
		return n
	}
	now := loads
	for i := range moves {
		now, e = plan.Apply(now, moves[i:i+1])
		if e != api.OK || sum(now) != sum(loads) {
			t.Fatalf("Even(%v, %v) = %v: %v, %d", loads, caps, moves, now, e)
		}
		for node := range now {
			if now[node] > caps[node] || now[node] < 0 {
				t.Fatalf("Even(%v, %v) = %v: %v", loads, caps, moves, now)
			}
		}
	}
	if at, e := plan.Apply(loads, moves); !slices.Equal(at, now) || e != api.OK {
		t.Fatalf("Apply(%v, %v) = %v, %d, not %v", loads, moves, at, e, now)
	}
	inTheWay := false
	for node := range now {
		inTheWay = inTheWay || now[node] == caps[node]
	}
	if !inTheWay && plan.Spread(now) > 1 {
		t.Fatalf("Even(%v, %v) = %v: %v", loads, caps, moves, now)
	}
	even(t, now, caps)
}

// P30.1, P30.2: all loads and caps of a few nodes.
func TestFewNodes(t *testing.T) {
	for n := 1; n <= 3; n++ {
		all(n, 4, func(loads []int) {
			checkEven(t, loads, free(n))
			all(n, 4, func(caps []int) {
				for node := range loads {
					if loads[node] > caps[node] {
						refusesEven(t, loads, caps, api.ErrArg)
						return
					}
				}
				checkEven(t, loads, caps)
			})
		})
	}
}

// P30.1, P30.2: many loads of up to eight nodes.
func TestManyLoads(t *testing.T) {
	seed := uint32(1)
	next := func(n int) int {
		seed = seed*1664525 + 1013904223
		return int(seed>>8) % n
	}
	for i := range 3000 {
		n, top := 1+i%8, []int{3, 12, 60, 1001}[next(4)]
		var loads, caps []int
		for range n {
			loads = append(loads, next(top))
			caps = append(caps, min(1000, loads[len(loads)-1]+next(1+next(top))))
		}
		checkEven(t, loads, caps)
		checkEven(t, loads, free(n))
		moves, _ := plan.Even(loads, free(n))
		if now, _ := plan.Apply(loads, moves); plan.Spread(now) > 1 {
			t.Errorf("Even(%v) = %v: %v", loads, moves, now)
		}
	}
}

// P30.1: loads behind moves; of none they are what they were, whatever they are and however many.
func TestApply(t *testing.T) {
	apply(t, nil, nil)
	apply(t, []int{}, []plan.Move{})
	apply(t, []int{3, 0}, nil, 3, 0)
	apply(t, []int{-5, 1 << 61, -1 << 61, 2000}, nil, -5, 1<<61, -1<<61, 2000)
	apply(t, []int{3, 0}, []plan.Move{{From: 0, To: 1}}, 2, 1)
	apply(t, []int{1, 0}, []plan.Move{{From: 0, To: 1}, {From: 1, To: 0}, {From: 0, To: 1}}, 0, 1)
	apply(t, []int{1, 0, 0}, []plan.Move{{From: 0, To: 2}, {From: 2, To: 1}}, 0, 1, 0)
	// Moves need not make loads more even, and caps aren't known.
	apply(t, []int{2, 1000}, []plan.Move{{From: 0, To: 1}, {From: 0, To: 1}}, 0, 1002)
	apply(t, []int{1, -7}, []plan.Move{{From: 0, To: 1}}, 0, -6)
	apply(t, []int{1 << 61, 1<<61 - 1}, []plan.Move{{From: 0, To: 1}}, 1<<61-1, 1<<61)
	apply(t, []int{1, 5}, []plan.Move{{From: 0, To: 0}, {From: 1, To: 1}}, 1, 5)
	many := slices.Repeat([]int{1}, 100)
	want := slices.Clone(many)
	want[99], want[8] = 0, 2
	apply(t, many, []plan.Move{{From: 99, To: 8}}, want...)
}

// P30.1: a move that names no node, whichever of both it is; that is told ahead of a load of nothing.
func TestApplyNoNode(t *testing.T) {
	for n := range 10 {
		for _, wrong := range append([]int{-1, -2, -n - 1, n, n + 1, 8 + n, 255, 256}, odd...) {
			for _, load := range []int{1, 0, -1} {
				loads := slices.Repeat([]int{load}, n)
				for _, x := range []plan.Move{{From: wrong}, {To: wrong}, {From: wrong, To: wrong}} {
					refusesApply(t, loads, []plan.Move{x}, api.ErrNode)
					refusesApply(t, loads, []plan.Move{x, {From: 0, To: 0}}, api.ErrNode)
				}
			}
		}
	}
}

// P30.1: a move from a load of nothing, also from one that moves ahead left so, and from one below nothing.
func TestApplyNoLoad(t *testing.T) {
	refusesApply(t, []int{0, 1}, []plan.Move{{From: 0, To: 1}}, api.ErrArg)
	refusesApply(t, []int{0}, []plan.Move{{From: 0, To: 0}}, api.ErrArg)
	for _, load := range []int{-1, -2, -1 << 61} {
		refusesApply(t, []int{load, 1}, []plan.Move{{From: 0, To: 1}}, api.ErrArg)
		refusesApply(t, []int{load, 1}, []plan.Move{{From: 0, To: 0}}, api.ErrArg)
	}
	refusesApply(t, []int{1, 0}, []plan.Move{{From: 0, To: 1}, {From: 0, To: 1}}, api.ErrArg)
	refusesApply(t, []int{2, 0}, []plan.Move{{From: 0, To: 1}, {From: 0, To: 1}, {From: 1, To: 0}, {From: 0, To: 1}, {From: 0, To: 1}}, api.ErrArg)
}

// P30.1: of several moves that have an error the first one's.
func TestApplyFirstError(t *testing.T) {
	node, load, fine := plan.Move{From: 0, To: 2}, plan.Move{From: 1, To: 0}, plan.Move{From: 0, To: 0}
	loads := []int{1, 0}
	refusesApply(t, loads, []plan.Move{node, load}, api.ErrNode)
	refusesApply(t, loads, []plan.Move{load, node}, api.ErrArg)
	refusesApply(t, loads, []plan.Move{fine, fine, node, load, fine}, api.ErrNode)
	refusesApply(t, loads, []plan.Move{fine, fine, load, node, fine}, api.ErrArg)
}

// P30.1: the greatest less the least.
func TestSpread(t *testing.T) {
	spread(t, 0)
	if got := plan.Spread([]int{}); got != 0 {
		t.Errorf("Spread of none is %d", got)
	}
	for _, load := range []int{0, 1, -1, 1000, 1001, 1 << 61, -1 << 61} {
		spread(t, 0, load)
		spread(t, 0, load, load, load)
	}
	spread(t, 3, 3, 0)
	spread(t, 3, 0, 3)
	spread(t, 6, 2, -1, 5, 0, 5)
	spread(t, 2, -3, -5)
	spread(t, 1000, 0, 1000, 500)
	spread(t, 1<<62, 1<<61, 0, -1<<61)
	spread(t, 100, append(slices.Repeat([]int{1}, 100), 101)...)
}

// P1: numbers beyond all that is promised come to an end, too.
func TestOddLoads(t *testing.T) {
	for _, a := range odd {
		for _, b := range odd {
			plan.Spread([]int{a, b})
			plan.Apply([]int{a, b}, []plan.Move{{From: 0, To: 1}, {From: 1, To: 0}, {From: 1, To: 0}})
			refusesEven(t, []int{a, b}, []int{b, a}, api.ErrArg)
		}
	}
}

// P30.3: what is handed in stays as it is, its spare room too, and isn't kept; answers are new memory.
func TestArgumentsAndAnswers(t *testing.T) {
	loads, caps := []int{9, 0, 2, 77, 78}, []int{9, 4, 2, 79, 80}
	moves := []plan.Move{{From: 0, To: 1}, {From: 0, To: 2}, {From: 7, To: 7}}
	was := fmt.Sprint(loads, caps, moves)
	first, _ := plan.Even(loads[:3], caps[:3])
	second, _ := plan.Even(loads[:3], caps[:3])
	one, _ := plan.Apply(loads[:3], moves[:2])
	two, _ := plan.Apply(loads[:3], nil)
	three, _ := plan.Apply(loads[:3], nil)
	plan.Spread(loads[:3])
	refusesApply(t, loads, moves, api.ErrNode)
	told := fmt.Sprint(second, three)
	spoil(first, plan.Move{From: 55, To: 55})
	spoil(one, 55)
	spoil(two, 55)
	if now := fmt.Sprint(loads, caps, moves); now != was {
		t.Errorf("%s became %s", was, now)
	}
	if now := fmt.Sprint(second, three); now != told {
		t.Errorf("%s became %s", told, now)
	}
	loads[0], moves[0] = 3, plan.Move{}
	if now := fmt.Sprint(second, three); now != told {
		t.Errorf("%s became %s", told, now)
	}
}

// spoil writes over a list, its spare room too.
func spoil[T any](list []T, x T) {
	list = list[:cap(list)]
	for i := range list {
		list[i] = x
	}
}
