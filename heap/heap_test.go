package heap_test

import (
	"math"
	"slices"
	"testing"

	"messuage/api"
	"messuage/buddy"
	"messuage/heap"
)

// noOrders are numbers of no order.
var noOrders = []int{-1, -2, -10, -11, 11, 12, 63, 64, 65, 1 << 32, 1<<32 + 1, math.MaxInt, math.MinInt, math.MinInt + 1}

// noNodes are numbers of no node of a heap of n.
func noNodes(n int) []int {
	return []int{-1, -n, n, n + 1, 8, 9, 1 << 32, 1<<32 + 1, math.MaxInt, math.MinInt, math.MinInt + 1}
}

// noFrames are numbers of no frame of a heap of n frames.
func noFrames(n int) []int {
	return []int{-1, -n, n, n + 1, 8192, 1 << 32, 1<<32 + 1, math.MaxInt, math.MinInt, math.MinInt + 1}
}

func made(t *testing.T, nodes, each int, m heap.Marks) *heap.Heap {
	t.Helper()
	h, e := heap.New(nodes, each, m)
	if h == nil || e != api.OK {
		t.Fatalf("New(%d, %d, %v) = %v, %d", nodes, each, m, h, e)
	}
	return h
}

// takes: Take answers that frame.
func takes(t *testing.T, h *heap.Heap, node, order, want int) {
	t.Helper()
	if frame, e := h.Take(node, order); frame != want || e != api.OK {
		t.Fatalf("Take(%d, %d) = %d, %d, not %d", node, order, frame, e, want)
	}
}

// refusesTake: Take answers that error and no frame.
func refusesTake(t *testing.T, h *heap.Heap, node, order int, want api.Errno) {
	t.Helper()
	if frame, e := h.Take(node, order); frame != 0 || e != want {
		t.Fatalf("Take(%d, %d) = %d, %d, not %d", node, order, frame, e, want)
	}
}

// gives: Give answers so.
func gives(t *testing.T, h *heap.Heap, frame, order int, want api.Errno) {
	t.Helper()
	if e := h.Give(frame, order); e != want {
		t.Fatalf("Give(%d, %d) = %d, not %d", frame, order, e, want)
	}
}

// isFree: so many frames of the nodes are free, and Whole, Poor and Rich tell the same.
func isFree(t *testing.T, h *heap.Heap, each int, free ...int) {
	t.Helper()
	whole, marks := true, h.Marks()
	for node, want := range free {
		if n, e := h.Free(node); n != want || e != api.OK {
			t.Fatalf("Free(%d) = %d, %d, not %d", node, n, e, want)
		}
		if h.Poor(node) != (want < marks.Low) || h.Rich(node) != (want > marks.High) {
			t.Fatalf("node %d with %d free: Poor %t, Rich %t", node, want, h.Poor(node), h.Rich(node))
		}
		whole = whole && want == each
	}
	if h.Whole() != whole {
		t.Fatalf("Whole() = %t of %v", h.Whole(), free)
	}
}

// allFree is each, for each node.
func allFree(nodes, each int) []int {
	return slices.Repeat([]int{each}, nodes)
}

// P9.1: New, at all counts that are allowed, with the least and the greatest marks.
func TestNew(t *testing.T) {
	for nodes := 1; nodes <= 8; nodes++ {
		for each := 1; each <= 1024; each *= 2 {
			for _, m := range []heap.Marks{{}, {0, 0, each}, {0, each, each}, {each, each, each}, {each / 4, each / 2, each - each/4}} {
				h := made(t, nodes, each, m)
				if h.Marks() != m {
					t.Errorf("Marks() = %v, not %v", h.Marks(), m)
				}
				isFree(t, h, each, allFree(nodes, each)...)
				if len(h.All(0)) != nodes {
					t.Errorf("All(0) = %v of %d nodes", h.All(0), nodes)
				}
			}
		}
	}
}

// P9.1: New refuses counts that can't be so, ahead of the marks.
func TestNewRefusesCounts(t *testing.T) {
	wrong := func(nodes, each int) {
		for _, m := range []heap.Marks{{}, {0, 0, 1}, {-1, -1, -1}, {2, 1, 0}, {0, 0, math.MaxInt}} {
			if h, e := heap.New(nodes, each, m); h != nil || e != api.ErrCount {
				t.Errorf("New(%d, %d, %v) = %v, %d", nodes, each, m, h, e)
			}
		}
	}
	for _, nodes := range []int{0, -1, 9, 16, -8, 1 << 32, 1<<32 + 1, math.MaxInt, math.MinInt} {
		for _, each := range []int{1, 4, 1024, 0, 3, 2048} {
			wrong(nodes, each)
		}
	}
	for _, each := range []int{0, -1, -2, 3, 5, 6, 12, 1000, 1023, 1025, 2048, 1 << 32, 1<<32 + 1, math.MaxInt, math.MinInt} {
		for _, nodes := range []int{1, 2, 8} {
			wrong(nodes, each)
		}
	}
}

// P9.1: New takes just the marks that are 0 or more, rising or the same, and at most each.
func TestNewMarks(t *testing.T) {
	marks := []int{math.MinInt, -2, -1, 0, 1, 2, 3, 4, 5, 6, math.MaxInt}
	for _, low := range marks {
		for _, least := range marks {
			for _, high := range marks {
				m := heap.Marks{Min: least, Low: low, High: high}
				right := least >= 0 && least <= low && low <= high && high <= 4
				h, e := heap.New(2, 4, m)
				if right && (h == nil || e != api.OK || h.Marks() != m) || !right && (h != nil || e != api.ErrArg) {
					t.Errorf("New(2, 4, %v) = %v, %d", m, h, e)
				}
			}
		}
	}
}

// P9.1: the document's example.
func TestExample(t *testing.T) {
	h := made(t, 2, 4, heap.Marks{Min: 1, Low: 1, High: 1})
	takes(t, h, 1, 1, 4)
	if h.May(1, 1) || !h.May(0, 1) || !h.May(1, 0) {
		t.Error(h.All(0), h.All(1))
	}
}

// P9.1, P9.2: at its mark a node gives nothing, one frame above it one frame, and so on, for all marks and orders.
func TestMayAtTheMark(t *testing.T) {
	const each = 16
	for least := 0; least <= each; least++ {
		h := made(t, 2, each, heap.Marks{Min: least, Low: each, High: each})
		for free := each; free >= least; free-- {
			for order := range 11 {
				// Frames are taken one by one from the first on, so those at the end are the greatest run.
				greatest := 1
				for greatest*2 <= free {
					greatest *= 2
				}
				want := 1<<order <= greatest && free > 0 && free-1<<order >= least
				if h.May(1, order) != want {
					t.Errorf("Min %d, %d free: May(1, %d) = %t", least, free, order, h.May(1, order))
				}
				if !want {
					refusesTake(t, h, 1, order, api.ErrNoMem)
				}
			}
			isFree(t, h, each, each, free)
			if free > least {
				takes(t, h, 1, 0, each+each-free)
			}
		}
	}
}

// P9.2: whatever is taken, no node comes below Min, though a run is free.
func TestNoNodeBelowMin(t *testing.T) {
	h := made(t, 2, 8, heap.Marks{Min: 3, Low: 4, High: 5})
	takes(t, h, 0, 2, 0)
	isFree(t, h, 8, 4, 8)
	refusesTake(t, h, 0, 2, api.ErrNoMem)
	refusesTake(t, h, 0, 1, api.ErrNoMem)
	takes(t, h, 0, 0, 4)
	isFree(t, h, 8, 3, 8)
	refusesTake(t, h, 0, 0, api.ErrNoMem)
	refusesTake(t, h, 0, 1, api.ErrNoMem)
	refusesTake(t, h, 1, 3, api.ErrNoMem)
	isFree(t, h, 8, 3, 8)
	gives(t, h, 0, 2, api.OK)
	takes(t, h, 0, 1, 6)
	isFree(t, h, 8, 5, 8)
}

// P9.1: a node has frames enough above Min, but no run of them.
func TestNoRun(t *testing.T) {
	h := made(t, 1, 8, heap.Marks{})
	for frame := range 8 {
		takes(t, h, 0, 0, frame)
	}
	for _, frame := range []int{0, 2, 4, 6} {
		gives(t, h, frame, 0, api.OK)
	}
	if !h.May(0, 0) || h.May(0, 1) || h.May(0, 2) {
		t.Error("May")
	}
	refusesTake(t, h, 0, 1, api.ErrNoMem)
	isFree(t, h, 8, 4)
}

// P9.1: Poor and Rich at the marks, one below and one above.
func TestPoorAndRich(t *testing.T) {
	h := made(t, 1, 8, heap.Marks{Min: 0, Low: 3, High: 5})
	poor := []bool{true, true, true, false, false, false, false, false, false}
	rich := []bool{false, false, false, false, false, false, true, true, true}
	for free := 8; free >= 0; free-- {
		if h.Poor(0) != poor[free] || h.Rich(0) != rich[free] {
			t.Errorf("%d free: Poor %t, Rich %t", free, h.Poor(0), h.Rich(0))
		}
		if free > 0 {
			takes(t, h, 0, 0, 8-free)
		}
	}
	same := made(t, 1, 4, heap.Marks{Min: 4, Low: 4, High: 4})
	if same.Poor(0) || same.Rich(0) || same.May(0, 0) {
		t.Error("all marks at each")
	}
}

// P9.1: no such node, no such order, no such frame: which error, and which of several first; nothing is changed.
func TestRefused(t *testing.T) {
	for nodes := 1; nodes <= 8; nodes++ {
		h := made(t, nodes, 4, heap.Marks{Min: 1, Low: 2, High: 3})
		takes(t, h, nodes-1, 1, nodes*4-4)
		for _, node := range noNodes(nodes) {
			if n, e := h.Free(node); n != 0 || e != api.ErrNode {
				t.Errorf("Free(%d) = %d, %d", node, n, e)
			}
			if h.Poor(node) || h.Rich(node) {
				t.Errorf("node %d: Poor %t, Rich %t", node, h.Poor(node), h.Rich(node))
			}
			for _, order := range append([]int{0, 1, 10}, noOrders...) {
				refusesTake(t, h, node, order, api.ErrNode)
				if h.May(node, order) {
					t.Errorf("May(%d, %d)", node, order)
				}
			}
		}
		for _, order := range noOrders {
			refusesTake(t, h, 0, order, api.ErrArg)
			refusesTake(t, h, nodes-1, order, api.ErrArg)
			gives(t, h, 0, order, api.ErrArg)
			gives(t, h, nodes*4-4, order, api.ErrArg)
			if h.May(0, order) || !slices.Equal(h.All(order), make([]bool, nodes)) {
				t.Errorf("order %d: %t, %v", order, h.May(0, order), h.All(order))
			}
		}
		for _, frame := range noFrames(nodes * 4) {
			for _, order := range append([]int{0, 1, 10}, noOrders...) {
				gives(t, h, frame, order, api.ErrArg)
			}
		}
		free := allFree(nodes, 4)
		free[nodes-1] = 2
		isFree(t, h, 4, free...)
		gives(t, h, nodes*4-4, 1, api.OK)
		isFree(t, h, 4, allFree(nodes, 4)...)
	}
}

// P9.1: Give refuses what no node's buddy took, and changes nothing.
func TestGiveRefuses(t *testing.T) {
	h := made(t, 2, 8, heap.Marks{})
	takes(t, h, 1, 1, 8)
	takes(t, h, 1, 2, 12)
	takes(t, h, 0, 0, 0)
	for frame := range 16 {
		for order := range 11 {
			taken := frame == 8 && order == 1 || frame == 12 && order == 2 || frame == 0 && order == 0
			if !taken {
				gives(t, h, frame, order, api.ErrBad)
			}
		}
	}
	isFree(t, h, 8, 7, 2)
	gives(t, h, 12, 2, api.OK)
	gives(t, h, 12, 2, api.ErrBad)
	gives(t, h, 8, 1, api.OK)
	gives(t, h, 8, 1, api.ErrBad)
	isFree(t, h, 8, 7, 8)
	gives(t, h, 0, 0, api.OK)
	isFree(t, h, 8, 8, 8)
}

// P9.1, P9.3: all frames of the greatest heap are taken, node by node, and given back in rising and in falling order.
func TestAllTakenAndGiven(t *testing.T) {
	for order := range 11 {
		h := made(t, 8, 1024, heap.Marks{})
		free := allFree(8, 1024)
		for frame := 0; frame < 8192; frame += 1 << order {
			node := frame / 1024
			takes(t, h, node, order, frame)
			free[node] -= 1 << order
			if free[node] == 0 {
				isFree(t, h, 1024, free...)
				refusesTake(t, h, node, 0, api.ErrNoMem)
			}
		}
		if slices.Contains(h.All(0), true) {
			t.Errorf("all is taken: All(0) = %v", h.All(0))
		}
		for frame := 0; frame < 8192; frame += 2 << order {
			gives(t, h, frame, order, api.OK)
		}
		for frame := 8192 - 1<<order; frame >= 0; frame -= 1 << order {
			if frame%(2<<order) != 0 {
				gives(t, h, frame, order, api.OK)
			}
		}
		isFree(t, h, 1024, allFree(8, 1024)...)
		for node := range 8 {
			takes(t, h, node, 10, node*1024)
		}
	}
}

// P9.1: Whole, where just one frame of one node is taken.
func TestWhole(t *testing.T) {
	for node := range 8 {
		h := made(t, 8, 4, heap.Marks{})
		takes(t, h, node, 0, node*4)
		if h.Whole() {
			t.Errorf("a frame of node %d is taken", node)
		}
		gives(t, h, node*4, 0, api.OK)
		if !h.Whole() {
			t.Errorf("the frame of node %d is free again", node)
		}
	}
}

// P9.3: free runs of two nodes that stand side by side aren't put together, and are taken from one node alone.
func TestNodesAreApart(t *testing.T) {
	h := made(t, 2, 4, heap.Marks{})
	if h.May(0, 3) || h.May(1, 3) {
		t.Error("a run of two nodes")
	}
	refusesTake(t, h, 0, 3, api.ErrNoMem)
	takes(t, h, 0, 2, 0)
	refusesTake(t, h, 0, 0, api.ErrNoMem)
	if !slices.Equal(h.All(2), []bool{false, true}) {
		t.Error(h.All(2))
	}
	takes(t, h, 1, 2, 4)
	gives(t, h, 0, 3, api.ErrBad)
	gives(t, h, 4, 2, api.OK)
	isFree(t, h, 4, 0, 4)
}

// model is a heap as the document tells it: a buddy for each node, and a mark.
type model struct {
	nodes []*buddy.Buddy
	each  int
	least int
}

func newModel(t *testing.T, nodes, each, least int) *model {
	t.Helper()
	m := &model{each: each, least: least}
	for range nodes {
		b, e := buddy.New(each)
		if e != api.OK {
			t.Fatal(e)
		}
		m.nodes = append(m.nodes, b)
	}
	return m
}

func (m *model) may(node, order int) bool {
	b := m.nodes[node]
	return b.Has(order) && b.Free() >= m.least+1<<order
}

func (m *model) take(node, order int) (int, api.Errno) {
	if !m.may(node, order) {
		return 0, api.ErrNoMem
	}
	at, e := m.nodes[node].Take(order)
	return node*m.each + at, e
}

// likeModel: the heap tells what the model does.
func likeModel(t *testing.T, h *heap.Heap, m *model) {
	t.Helper()
	var free []int
	for _, b := range m.nodes {
		free = append(free, b.Free())
	}
	isFree(t, h, m.each, free...)
	for order := range 11 {
		all := h.All(order)
		if len(all) != len(m.nodes) {
			t.Fatalf("All(%d) = %v", order, all)
		}
		for node, may := range all {
			if want := m.may(node, order); may != want || h.May(node, order) != want {
				t.Fatalf("May(%d, %d) = %t, All = %v", node, order, h.May(node, order), all)
			}
		}
	}
}

// P9.1, P9.2, P9.3: many steps, against buddies that know nothing of each other.
func TestManySteps(t *testing.T) {
	seed := uint32(9)
	step := func(n int) int {
		seed = seed*1664525 + 1013904223
		return int(seed>>10) % n
	}
	for nodes := 1; nodes <= 8; nodes++ {
		for each := 1; each <= 1024; each *= 4 {
			least := step(each/2 + 1)
			h := made(t, nodes, each, heap.Marks{Min: least, Low: (least + each) / 2, High: each - each/8})
			m := newModel(t, nodes, each, least)
			var taken [][2]int
			for range 400 {
				node, order := step(nodes), step(step(11)+1)
				frame, i := step(nodes*each), step(len(taken)+1)
				switch {
				case step(2) == 0:
					want, wantE := m.take(node, order)
					if got, e := h.Take(node, order); got != want || e != wantE {
						t.Fatalf("Take(%d, %d) = %d, %d, not %d, %d", node, order, got, e, want, wantE)
					}
					if wantE == api.OK {
						taken = append(taken, [2]int{want, order})
					}
				case i < len(taken):
					frame, order = taken[i][0], taken[i][1]
					gives(t, h, frame, order, m.nodes[frame/each].Give(frame%each, order))
					taken = slices.Delete(taken, i, i+1)
				case !slices.Contains(taken, [2]int{frame, order}):
					gives(t, h, frame, order, api.ErrBad)
				}
				likeModel(t, h, m)
			}
			for _, run := range taken {
				gives(t, h, run[0], run[1], api.OK)
			}
			isFree(t, h, each, allFree(nodes, each)...)
		}
	}
}

// P9.1: whoever changes an answer changes nothing else, and no later call changes it.
func TestAnswersAreNew(t *testing.T) {
	h := made(t, 3, 4, heap.Marks{})
	takes(t, h, 1, 2, 4)
	first, second := h.All(0), h.All(0)
	for node := range first {
		first[node] = !first[node]
	}
	want := []bool{true, false, true}
	if !slices.Equal(second, want) || !slices.Equal(h.All(0), want) {
		t.Errorf("the answers became %v, %v", second, h.All(0))
	}
	takes(t, h, 0, 2, 0)
	gives(t, h, 4, 2, api.OK)
	if !slices.Equal(second, want) {
		t.Errorf("the answer became %v", second)
	}
	marks := h.Marks()
	marks.Min = 4
	if h.Marks() != (heap.Marks{}) || !h.May(1, 0) {
		t.Errorf("the marks became %v", h.Marks())
	}
}

// P9.1: what one heap is told changes no other one.
func TestHeapsAreApart(t *testing.T) {
	a, b := made(t, 2, 4, heap.Marks{}), made(t, 2, 4, heap.Marks{})
	takes(t, a, 1, 2, 4)
	isFree(t, b, 4, 4, 4)
	gives(t, b, 4, 2, api.ErrBad)
	takes(t, b, 0, 0, 0)
	isFree(t, a, 4, 4, 0)
}

// refusesAll: at no argument a heap without nodes has anything, and none of its calls panics.
func refusesAll(t *testing.T, h *heap.Heap, noNode api.Errno) {
	t.Helper()
	for _, node := range append([]int{0, 1, 7}, noNodes(8)...) {
		if n, e := h.Free(node); n != 0 || e != noNode {
			t.Errorf("Free(%d) = %d, %d", node, n, e)
		}
		if h.Poor(node) || h.Rich(node) {
			t.Errorf("node %d: Poor %t, Rich %t", node, h.Poor(node), h.Rich(node))
		}
		for _, order := range append([]int{0, 1, 10}, noOrders...) {
			refusesTake(t, h, node, order, noNode)
			gives(t, h, node, order, api.ErrArg)
			if h.May(node, order) || len(h.All(order)) > 0 {
				t.Errorf("May(%d, %d) = %t, All = %v", node, order, h.May(node, order), h.All(order))
			}
		}
	}
	if h.Marks() != (heap.Marks{}) {
		t.Error(h.Marks())
	}
}

// P1, P9.1: a nil heap.
func TestNilHeap(t *testing.T) {
	refusesAll(t, nil, api.ErrArg)
	var h *heap.Heap
	if h.Whole() {
		t.Error("a nil heap is whole")
	}
}

// P1: a heap that New didn't make has no node.
func TestHeapOfNothing(t *testing.T) {
	refusesAll(t, new(heap.Heap), api.ErrNode)
}
