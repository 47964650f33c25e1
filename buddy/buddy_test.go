package buddy_test

import (
	"math"
	"slices"
	"testing"

	"messuage/api"
	"messuage/buddy"
)

// run is a run of an order, by its first frame.
type run struct {
	at, order int
}

// model is what a buddy shall be, frame by frame: is it taken? And which runs are.
type model struct {
	taken []bool
	runs  []run
}

func newModel(n int) *model {
	return &model{taken: make([]bool, n)}
}

// isFree: is there such a run, and are all its frames free?
func (m *model) isFree(r run) bool {
	if r.order > api.MaxOrder || r.at+1<<r.order > len(m.taken) {
		return false
	}
	return !slices.Contains(m.taken[r.at:r.at+1<<r.order], true)
}

// free is the free runs of just that order, by the document's words.
func (m *model) free(order int) []int {
	var first []int
	if !isOrder(order) {
		return nil
	}
	for at := 0; at < len(m.taken); at += 1 << order {
		greater := run{at &^ (2<<order - 1), order + 1}
		if m.isFree(run{at, order}) && !m.isFree(greater) {
			first = append(first, at)
		}
	}
	return first
}

func (m *model) count() int {
	n := 0
	for _, taken := range m.taken {
		if !taken {
			n++
		}
	}
	return n
}

func (m *model) has(order int) bool {
	for k := order; isOrder(order) && k <= api.MaxOrder; k++ {
		if len(m.free(k)) > 0 {
			return true
		}
	}
	return false
}

func (m *model) mark(r run, taken bool) {
	for f := r.at; f < r.at+1<<r.order; f++ {
		m.taken[f] = taken
	}
}

func (m *model) take(order int) (int, api.Errno) {
	if !isOrder(order) {
		return 0, api.ErrArg
	}
	for k := order; k <= api.MaxOrder; k++ {
		if first := m.free(k); len(first) > 0 {
			r := run{first[0], order}
			m.mark(r, true)
			m.runs = append(m.runs, r)
			return r.at, api.OK
		}
	}
	return 0, api.ErrNoMem
}

func (m *model) give(r run) api.Errno {
	if !isOrder(r.order) {
		return api.ErrArg
	}
	i := slices.Index(m.runs, r)
	if i < 0 {
		return api.ErrBad
	}
	m.mark(r, false)
	m.runs = slices.Delete(m.runs, i, i+1)
	return api.OK
}

func isOrder(order int) bool {
	return order >= 0 && order <= 10
}

// sizes are the counts of frames that a buddy may have, noOrders numbers of no order.
var (
	sizes    = []int{1, 2, 4, 8, 16, 32, 64, 128, 256, 512, 1024}
	noOrders = []int{-1, -2, -10, -11, 11, 12, 63, 64, 65, 1 << 32, 1<<32 + 1, math.MaxInt, math.MinInt, math.MinInt + 1}
)

func made(t *testing.T, n int) *buddy.Buddy {
	t.Helper()
	b, e := buddy.New(n)
	if b == nil || e != api.OK {
		t.Fatalf("New(%d) = %v, %d", n, b, e)
	}
	return b
}

// takes: Take answers that frame.
func takes(t *testing.T, b *buddy.Buddy, order, want int) {
	t.Helper()
	if at, e := b.Take(order); at != want || e != api.OK {
		t.Fatalf("Take(%d) = %d, %d, not %d", order, at, e, want)
	}
}

// gives: Give answers so.
func gives(t *testing.T, b *buddy.Buddy, at, order int, want api.Errno) {
	t.Helper()
	if e := b.Give(at, order); e != want {
		t.Fatalf("Give(%d, %d) = %d, not %d", at, order, e, want)
	}
}

// hasRuns: just these are the free runs, by order, and the other calls tell the same.
func hasRuns(t *testing.T, b *buddy.Buddy, n int, runs map[int][]int) {
	t.Helper()
	frames, greatest := 0, -1
	for order := range 11 {
		if got := b.Runs(order); !slices.Equal(got, runs[order]) {
			t.Errorf("of %d: Runs(%d) = %v, not %v", n, order, got, runs[order])
		}
		frames += len(runs[order]) << order
		if len(runs[order]) > 0 {
			greatest = order
		}
	}
	for order := range 11 {
		if b.Has(order) != (order <= greatest) {
			t.Errorf("of %d: Has(%d) = %t, the greatest is %d", n, order, b.Has(order), greatest)
		}
	}
	if b.Free() != frames || b.Len() != n {
		t.Errorf("of %d: Free() = %d, not %d; Len() = %d", n, b.Free(), frames, b.Len())
	}
}

// isWhole: all frames are one free run.
func isWhole(t *testing.T, b *buddy.Buddy, n int) {
	t.Helper()
	hasRuns(t, b, n, map[int][]int{slices.Index(sizes, n): {0}})
}

// likeModel: the buddy tells what the model does.
func likeModel(t *testing.T, b *buddy.Buddy, m *model) {
	t.Helper()
	runs := map[int][]int{}
	for order := range 11 {
		runs[order] = m.free(order)
		if b.Has(order) != m.has(order) {
			t.Fatalf("Has(%d) = %t", order, b.Has(order))
		}
	}
	hasRuns(t, b, len(m.taken), runs)
	if b.Free() != m.count() {
		t.Fatalf("Free() = %d, not %d", b.Free(), m.count())
	}
	if t.Failed() {
		t.FailNow()
	}
}

// P8.1: New, at all counts that are allowed: one free run of all frames.
func TestNew(t *testing.T) {
	for _, n := range sizes {
		isWhole(t, made(t, n), n)
	}
}

// P8.1: New refuses all other counts.
func TestNewRefuses(t *testing.T) {
	wrong := []int{2048, 4096, 1 << 31, 1 << 32, 1<<32 + 1, 1 << 62, math.MaxInt, math.MinInt, math.MinInt + 1, -1 << 32}
	for n := -1100; n <= 1100; n++ {
		if !slices.Contains(sizes, n) {
			wrong = append(wrong, n)
		}
	}
	for _, n := range wrong {
		if b, e := buddy.New(n); b != nil || e != api.ErrCount {
			t.Errorf("New(%d) = %v, %d", n, b, e)
		}
	}
}

// P8.1: the document's example.
func TestExample(t *testing.T) {
	b := made(t, 8)
	takes(t, b, 0, 0)
	hasRuns(t, b, 8, map[int][]int{0: {1}, 1: {2}, 2: {4}})
}

// P8.1: the least free run that has room is taken from, though a greater one stands ahead of it.
func TestTakeFromTheLeast(t *testing.T) {
	b := made(t, 16)
	takes(t, b, 2, 0)
	takes(t, b, 0, 4)
	gives(t, b, 0, 2, api.OK)
	hasRuns(t, b, 16, map[int][]int{0: {5}, 1: {6}, 2: {0}, 3: {8}})
	takes(t, b, 0, 5)
	takes(t, b, 1, 6)
	takes(t, b, 1, 0)
	hasRuns(t, b, 16, map[int][]int{1: {2}, 3: {8}})
	takes(t, b, 2, 8)
	takes(t, b, 0, 2)
	hasRuns(t, b, 16, map[int][]int{0: {3}, 2: {12}})
}

// P8.1: of several free runs of one order the first one is taken, in whatever order they were given.
func TestTakeTheFirst(t *testing.T) {
	b := made(t, 16)
	for at := range 16 {
		takes(t, b, 0, at)
	}
	for _, at := range []int{9, 3, 15, 5, 1} {
		gives(t, b, at, 0, api.OK)
	}
	hasRuns(t, b, 16, map[int][]int{0: {1, 3, 5, 9, 15}})
	for _, at := range []int{1, 3, 5, 9, 15} {
		takes(t, b, 0, at)
	}
	hasRuns(t, b, 16, nil)
}

// P8.1: of a run that was halved, the first frames are taken, at all orders of all buddies.
func TestTakeOfEachOrder(t *testing.T) {
	for top, n := range sizes {
		for order := range 11 {
			b := made(t, n)
			if order > top {
				refusesTake(t, b, order, api.ErrNoMem)
				isWhole(t, b, n)
				continue
			}
			takes(t, b, order, 0)
			runs := map[int][]int{}
			for k := order; k < top; k++ {
				runs[k] = []int{1 << k}
			}
			hasRuns(t, b, n, runs)
			gives(t, b, 0, order, api.OK)
			isWhole(t, b, n)
		}
	}
}

// refusesTake: Take answers that error and no frame.
func refusesTake(t *testing.T, b *buddy.Buddy, order int, want api.Errno) {
	t.Helper()
	if at, e := b.Take(order); at != 0 || e != want {
		t.Errorf("Take(%d) = %d, %d, not %d", order, at, e, want)
	}
}

// P8.1: calls of no such order, whether frames are free or none is: told ahead of all else, and nothing is changed.
func TestNoSuchOrder(t *testing.T) {
	none := made(t, 4)
	takes(t, none, 2, 0)
	some := made(t, 4)
	takes(t, some, 0, 0)
	for _, order := range noOrders {
		for _, b := range []*buddy.Buddy{none, some} {
			refusesTake(t, b, order, api.ErrArg)
			for _, at := range []int{0, 1, -1, 4, math.MaxInt, math.MinInt} {
				gives(t, b, at, order, api.ErrArg)
			}
			if b.Has(order) || len(b.Runs(order)) > 0 {
				t.Errorf("Has(%d) = %t, Runs = %v", order, b.Has(order), b.Runs(order))
			}
		}
	}
	hasRuns(t, none, 4, nil)
	hasRuns(t, some, 4, map[int][]int{0: {1}, 1: {2}})
	gives(t, none, 0, 2, api.OK)
	gives(t, some, 0, 0, api.OK)
}

// P8.1: there are free frames enough, but no run of them.
func TestNoRun(t *testing.T) {
	b := made(t, 8)
	for at := range 8 {
		takes(t, b, 0, at)
	}
	refusesTake(t, b, 0, api.ErrNoMem)
	for _, at := range []int{1, 2, 5, 6} {
		gives(t, b, at, 0, api.OK)
	}
	// 1 and 2 stand side by side, but 1 isn't the first of a run of two.
	runs := map[int][]int{0: {1, 2, 5, 6}}
	hasRuns(t, b, 8, runs)
	for order := 1; order <= 10; order++ {
		refusesTake(t, b, order, api.ErrNoMem)
	}
	hasRuns(t, b, 8, runs)
}

// P8.1: Give refuses what wasn't taken so, and changes nothing.
func TestGiveRefuses(t *testing.T) {
	b := made(t, 16)
	takes(t, b, 1, 0)
	takes(t, b, 2, 4)
	takes(t, b, 0, 2)
	taken := []run{{0, 1}, {4, 2}, {2, 0}}
	runs := map[int][]int{0: {3}, 3: {8}}
	for at := -2; at <= 20; at++ {
		for order := range 11 {
			if !slices.Contains(taken, run{at, order}) {
				gives(t, b, at, order, api.ErrBad)
			}
		}
	}
	for _, at := range []int{math.MaxInt, math.MinInt, math.MinInt + 4, 1 << 32, 1<<32 + 4, -16, -12, 1024, 1 << 62} {
		for order := range 11 {
			gives(t, b, at, order, api.ErrBad)
		}
	}
	hasRuns(t, b, 16, runs)
	for _, r := range taken {
		gives(t, b, r.at, r.order, api.OK)
		gives(t, b, r.at, r.order, api.ErrBad)
	}
	isWhole(t, b, 16)
}

// P8.1: a run that was given may be taken again as one of another order, and only that one may be given.
func TestTakenAgain(t *testing.T) {
	b := made(t, 8)
	takes(t, b, 0, 0)
	gives(t, b, 0, 0, api.OK)
	takes(t, b, 2, 0)
	gives(t, b, 0, 0, api.ErrBad)
	gives(t, b, 0, 3, api.ErrBad)
	gives(t, b, 0, 2, api.OK)
	takes(t, b, 3, 0)
	gives(t, b, 0, 2, api.ErrBad)
	gives(t, b, 0, 3, api.OK)
	isWhole(t, b, 8)
}

// step is the next number of a fixed row.
func step(seed uint32) uint32 {
	return seed*1664525 + 1013904223
}

// rows are n things, one behind the other, in several ways.
func rows(n int) [][]int {
	var rising, falling, parted, mixed []int
	for i := range n {
		rising = append(rising, i)
		falling = append(falling, n-1-i)
	}
	for i := 0; i < n; i += 2 {
		parted = append(parted, i)
	}
	for i := 1; i < n; i += 2 {
		parted = append(parted, i)
	}
	mixed = slices.Clone(rising)
	seed := uint32(n)
	for i := n - 1; i > 0; i-- {
		seed = step(seed)
		j := int(seed>>8) % (i + 1)
		mixed[i], mixed[j] = mixed[j], mixed[i]
	}
	return [][]int{rising, falling, parted, mixed}
}

// P8.2, P8.3: all frames are taken as runs of one order, none twice, and given back in several orders.
func TestAllTakenAndGiven(t *testing.T) {
	for top, n := range sizes {
		for order := 0; order <= top; order++ {
			count := n >> order
			for _, row := range rows(count) {
				b := made(t, n)
				for i := range count {
					takes(t, b, order, i<<order)
				}
				hasRuns(t, b, n, nil)
				for k := range 11 {
					refusesTake(t, b, k, api.ErrNoMem)
				}
				for given, i := range row {
					if b.Free() != given<<order {
						t.Fatalf("of %d: Free() = %d", n, b.Free())
					}
					gives(t, b, i<<order, order, api.OK)
				}
				isWhole(t, b, n)
			}
		}
	}
}

// P8.3: runs of all orders beside each other, given back in several orders.
func TestRunsOfAllOrders(t *testing.T) {
	for _, row := range rows(11) {
		b := made(t, 1024)
		taken := []run{{0, 0}}
		takes(t, b, 0, 0)
		for order := range 10 {
			takes(t, b, order, 1<<order)
			taken = append(taken, run{1 << order, order})
		}
		hasRuns(t, b, 1024, nil)
		for _, i := range row {
			gives(t, b, taken[i].at, taken[i].order, api.OK)
		}
		isWhole(t, b, 1024)
	}
}

// randomStep does one step to both and holds their answers against each other.
func randomStep(t *testing.T, b *buddy.Buddy, m *model, seed uint32) {
	t.Helper()
	pick := int(seed >> 12)
	order := pick / 8 % 12
	switch {
	case pick%8 < 4:
		order = min(order, order*int(seed>>24)/256)
		want, wantE := m.take(order)
		if at, e := b.Take(order); at != want || e != wantE {
			t.Fatalf("Take(%d) = %d, %d, not %d, %d", order, at, e, want, wantE)
		}
	case pick%8 < 7 && len(m.runs) > 0:
		r := m.runs[pick/8%len(m.runs)]
		gives(t, b, r.at, r.order, m.give(r))
	default:
		r := run{pick/96%(len(m.taken)+2) - 1, order - 1}
		gives(t, b, r.at, r.order, m.give(r))
	}
}

// P8.1, P8.2, P8.3: many steps, at all counts of frames, against the model.
func TestManySteps(t *testing.T) {
	for _, n := range sizes {
		b, m := made(t, n), newModel(n)
		seed := uint32(n)
		for range 3000 {
			seed = step(seed)
			randomStep(t, b, m, seed)
			if n <= 64 || seed>>28 == 0 {
				likeModel(t, b, m)
			}
		}
		likeModel(t, b, m)
		for len(m.runs) > 0 {
			r := m.runs[len(m.runs)/2]
			gives(t, b, r.at, r.order, m.give(r))
		}
		isWhole(t, b, n)
	}
}

// P8.1: all rows of up to four calls of a small buddy, against the model.
func TestAllShortRows(t *testing.T) {
	const calls = 3 + 4*3
	for row := range calls * calls * calls * calls {
		b, m := made(t, 4), newModel(4)
		for rest := row; rest > 0; rest /= calls {
			if call := rest % calls; call < 3 {
				want, wantE := m.take(call)
				if at, e := b.Take(call); at != want || e != wantE {
					t.Fatalf("row %d: Take(%d) = %d, %d, not %d, %d", row, call, at, e, want, wantE)
				}
			} else {
				r := run{(call - 3) / 3, (call - 3) % 3}
				gives(t, b, r.at, r.order, m.give(r))
			}
		}
		likeModel(t, b, m)
	}
}

// P8.4: whoever changes an answer changes nothing else, and no later call changes it.
func TestAnswersAreNew(t *testing.T) {
	b := made(t, 8)
	for at := range 8 {
		takes(t, b, 0, at)
	}
	for _, at := range []int{1, 3, 5} {
		gives(t, b, at, 0, api.OK)
	}
	first, second := b.Runs(0), b.Runs(0)
	for i := range first {
		first[i] = 7
	}
	_ = append(first[:1], 6, 6, 6, 6)
	if !slices.Equal(second, []int{1, 3, 5}) {
		t.Errorf("the second answer became %v", second)
	}
	hasRuns(t, b, 8, map[int][]int{0: {1, 3, 5}})
	spare := append(b.Runs(0), 9, 9, 9)
	takes(t, b, 0, 1)
	gives(t, b, 7, 0, api.OK)
	if !slices.Equal(second, []int{1, 3, 5}) || !slices.Equal(spare, []int{1, 3, 5, 9, 9, 9}) {
		t.Errorf("the answers became %v, %v", second, spare)
	}
	hasRuns(t, b, 8, map[int][]int{0: {3, 5, 7}})
}

// P8.1: what one buddy is told changes no other one.
func TestBuddiesAreApart(t *testing.T) {
	a, b := made(t, 8), made(t, 8)
	takes(t, a, 0, 0)
	isWhole(t, b, 8)
	gives(t, b, 0, 0, api.ErrBad)
	takes(t, b, 3, 0)
	hasRuns(t, a, 8, map[int][]int{0: {1}, 1: {2}, 2: {4}})
}

// P1, P8.1: a nil buddy.
func TestNilBuddy(t *testing.T) {
	var b *buddy.Buddy
	for _, order := range append([]int{0, 1, 5, 10}, noOrders...) {
		refusesTake(t, b, order, api.ErrArg)
		for _, at := range []int{0, 1, -1, math.MaxInt, math.MinInt} {
			gives(t, b, at, order, api.ErrArg)
		}
		if b.Has(order) || len(b.Runs(order)) > 0 {
			t.Errorf("Has(%d) = %t, Runs = %v", order, b.Has(order), b.Runs(order))
		}
	}
	if b.Free() != 0 || b.Len() != 0 {
		t.Error(b.Free(), b.Len())
	}
}

// P1: a buddy that New didn't make has no frame.
func TestBuddyOfNothing(t *testing.T) {
	b := new(buddy.Buddy)
	for order := range 11 {
		refusesTake(t, b, order, api.ErrNoMem)
		for _, at := range []int{0, 1, -1, math.MaxInt, math.MinInt} {
			gives(t, b, at, order, api.ErrBad)
		}
	}
	for _, order := range noOrders {
		refusesTake(t, b, order, api.ErrArg)
		gives(t, b, 0, order, api.ErrArg)
	}
	hasRuns(t, b, 0, nil)
}
