package space_test

import (
	"math"
	"slices"
	"testing"

	"messuage/api"
	"messuage/space"
)

// The counts by the chapter: pages 0 to 4095, of which nobody gets page 0.
const (
	pages = 4096
	room  = 4095
)

// noCounts are counts of pages that no run has.
var noCounts = []int{0, -1, -2, -64, -4095, -4096, 4096, 4097, 8191, 1 << 16, 1<<16 + 1, 1 << 32, 1<<32 + 1, math.MaxInt, math.MaxInt - 1, math.MinInt, math.MinInt + 1}

// noPages are numbers of no page that may be taken.
var noPages = []int{0, -1, -2, -4095, -4096, 4096, 4097, 8191, 8192, 1 << 16, 1<<16 + 1, 1 << 32, 1<<32 + 1, math.MaxInt, math.MaxInt - 1, math.MinInt, math.MinInt + 1}

func takes(t *testing.T, s *space.Space, n, want int) {
	t.Helper()
	if first, e := s.Take(n); first != want || e != api.OK {
		t.Errorf("Take(%d) = %d, %d, not %d", n, first, e, want)
	}
}

func refusesTake(t *testing.T, s *space.Space, n int, want api.Errno) {
	t.Helper()
	if first, e := s.Take(n); first != 0 || e != want {
		t.Errorf("Take(%d) = %d, %d, not 0, %d", n, first, e, want)
	}
}

func gives(t *testing.T, s *space.Space, first, want int) {
	t.Helper()
	if n, e := s.Give(first); n != want || e != api.OK {
		t.Errorf("Give(%d) = %d, %d, not %d", first, n, e, want)
	}
}

func refusesGive(t *testing.T, s *space.Space, first int, want api.Errno) {
	t.Helper()
	if n, e := s.Give(first); n != 0 || e != want {
		t.Errorf("Give(%d) = %d, %d, not 0, %d", first, n, e, want)
	}
}

func hasRun(t *testing.T, s *space.Space, page, wantFirst, wantCount int) {
	t.Helper()
	if first, n, ok := s.Of(page); first != wantFirst || n != wantCount || !ok {
		t.Errorf("Of(%d) = %d, %d, %v, not %d, %d", page, first, n, ok, wantFirst, wantCount)
	}
}

func hasNoRun(t *testing.T, s *space.Space, page int) {
	t.Helper()
	if first, n, ok := s.Of(page); first != 0 || n != 0 || ok {
		t.Errorf("Of(%d) = %d, %d, %v, of none", page, first, n, ok)
	}
}

// model is a space, page by page: the first page of the run that has it, or 0.
type model [pages]int

// room is whether the n pages from first on are free.
func (m *model) room(first, n int) bool {
	return first+n <= pages && !slices.ContainsFunc(m[first:first+n], func(run int) bool { return run != 0 })
}

// lowest is the lowest of n free pages side by side, or 0.
func (m *model) lowest(n int) int {
	for first := 1; first < pages; first++ {
		if m.room(first, n) {
			return first
		}
	}
	return 0
}

// count is how many pages the run has that begins at first.
func (m *model) count(first int) int {
	n := 0
	for _, run := range m {
		if run == first {
			n++
		}
	}
	return n
}

// runs are the first pages of all runs.
func (m *model) runs() []int {
	var firsts []int
	for page, run := range m {
		if run != 0 && run == page {
			firsts = append(firsts, page)
		}
	}
	return firsts
}

// fill lays a run into n pages from first on, or, with 0, makes them free.
func (m *model) fill(first, n, run int) {
	for page := first; page < first+n; page++ {
		m[page] = run
	}
}

// take is Take of a space and of the model.
func (m *model) take(t *testing.T, s *space.Space, n int) {
	t.Helper()
	first := m.lowest(n)
	if first == 0 {
		refusesTake(t, s, n, api.ErrFull)
		return
	}
	takes(t, s, n, first)
	m.fill(first, n, first)
}

// give is Give of a space and of the model.
func (m *model) give(t *testing.T, s *space.Space, first int) {
	t.Helper()
	if m[first] != first || first == 0 {
		refusesGive(t, s, first, api.ErrMiss)
		return
	}
	n := m.count(first)
	gives(t, s, first, n)
	m.fill(first, n, 0)
}

// stands tells whether a space is as the model, by all calls that ask, of each page and of some that there aren't.
func (m *model) stands(t *testing.T, s *space.Space) {
	t.Helper()
	want, free := m.runs(), m.count(0)-1
	if got := s.Runs(); !slices.Equal(got, want) {
		t.Errorf("Runs() = %v, not %v", got, want)
	}
	if got := s.Free(); got != free {
		t.Errorf("Free() = %d, not %d", got, free)
	}
	counts := map[int]int{}
	for _, run := range m {
		counts[run]++
	}
	for page, run := range m {
		if run == 0 {
			hasNoRun(t, s, page)
		} else {
			hasRun(t, s, page, run, counts[run])
		}
	}
	for _, page := range noPages {
		hasNoRun(t, s, page)
	}
}

// taken is a space and its model, of which runs of so many pages were taken.
func taken(t *testing.T, counts ...int) (*space.Space, *model) {
	t.Helper()
	s, m := space.New(), &model{}
	for _, n := range counts {
		m.take(t, s, n)
	}
	return s, m
}

// P17.1: New: no page is in a run, and all but page 0 are free.
func TestNew(t *testing.T) {
	s := space.New()
	if s == nil {
		t.Fatal("New() = nil")
	}
	if pages != api.MaxPages || s.Free() != room {
		t.Error("Free() =", s.Free())
	}
	new(model).stands(t, s)
}

// P17.1: the document's example.
func TestExample(t *testing.T) {
	s := space.New()
	takes(t, s, 2, 1)
	takes(t, s, 1, 3)
	gives(t, s, 1, 2)
	takes(t, s, 1, 1)
}

// P17.1: one page, some and all, out of an empty space: the lowest ones, and never page 0.
func TestTakeOfAnEmptySpace(t *testing.T) {
	for _, n := range []int{1, 2, 3, 16, 17, 63, 64, 1024, 2047, 2048, 2049, 4093, 4094, 4095} {
		s, m := taken(t, n)
		m.stands(t, s)
		hasRun(t, s, 1, 1, n)
		hasRun(t, s, n, 1, n)
		hasNoRun(t, s, 0)
		if s.Free() != room-n {
			t.Errorf("Free() = %d behind Take(%d)", s.Free(), n)
		}
		gives(t, s, 1, n)
		new(model).stands(t, s)
	}
}

// P17.1: up to the last page: what still goes in and what doesn't.
func TestTakeUpToTheLastPage(t *testing.T) {
	for _, left := range []int{1, 2, 3, 16, 100, 4094} {
		s, m := taken(t, room-left)
		for _, n := range []int{left + 1, min(left+2, room), room} {
			refusesTake(t, s, n, api.ErrFull)
		}
		m.stands(t, s)
		takes(t, s, left, pages-left)
		hasRun(t, s, pages-1, pages-left, left)
		hasNoRun(t, s, pages)
		if s.Free() != 0 {
			t.Error("Free() =", s.Free())
		}
		refusesTake(t, s, 1, api.ErrFull)
		gives(t, s, pages-left, left)
		m.stands(t, s)
	}
}

// P17.1, P17.2: pages one by one till there is none, and free again from both sides and from the middle.
func TestPagesOneByOne(t *testing.T) {
	s, m := space.New(), &model{}
	for page := 1; page < pages; page++ {
		takes(t, s, 1, page)
		m[page] = page
	}
	m.stands(t, s)
	for _, n := range []int{1, 2, room} {
		refusesTake(t, s, n, api.ErrFull)
	}
	for _, page := range []int{1, 4095, 2048, 2, 4094, 2047, 2050} {
		m.give(t, s, page)
		m.stands(t, s)
	}
	for _, n := range []int{3, 2, 2, 2, 1, 1} {
		m.take(t, s, n)
		m.stands(t, s)
	}
	for page := range pages {
		m.give(t, s, page)
	}
	m.stands(t, s)
	takes(t, s, room, 1)
}

// P17.1: a run goes to the lowest place that has room, be there nearer ones that are too narrow or later ones that fit better.
func TestTakeTheLowestPlace(t *testing.T) {
	s, m := taken(t, 1, 2, 1, 5, 1, 3, 1)
	for _, first := range []int{2, 5, 11} {
		m.give(t, s, first)
	}
	takes(t, s, 3, 5)
	takes(t, s, 3, 11)
	takes(t, s, 3, 15)
	takes(t, s, 2, 2)
	takes(t, s, 1, 8)
	takes(t, s, 1, 9)
	takes(t, s, 1, 18)
}

// P17.1: the gap at the beginning, which page 0 isn't in.
func TestGapAtTheBeginning(t *testing.T) {
	s, m := taken(t, 3, 1)
	m.give(t, s, 1)
	takes(t, s, 4, 5)
	takes(t, s, 3, 1)
	hasNoRun(t, s, 0)
}

// P17.1: runs that are free side by side are one place, in whichever order they were given; runs that are taken side by side stay two.
func TestPlacesSideBySide(t *testing.T) {
	for _, order := range [][]int{{5, 7, 10}, {10, 7, 5}, {7, 5, 10}, {5, 10, 7}} {
		s, m := taken(t, 4, 2, 3, 6, 1)
		for _, first := range order {
			refusesTake(t, s, 4083, api.ErrFull)
			m.give(t, s, first)
			m.stands(t, s)
		}
		takes(t, s, 11, 5)
	}
	s, _ := taken(t, 2, 2)
	hasRun(t, s, 2, 1, 2)
	hasRun(t, s, 3, 3, 2)
	gives(t, s, 1, 2)
	hasRun(t, s, 4, 3, 2)
}

// P17.1: as many pages as there are free, but not side by side.
func TestFullInParts(t *testing.T) {
	s, m := taken(t, 2000, 1, 2094)
	m.give(t, s, 1)
	m.give(t, s, 2002)
	if s.Free() != 4094 {
		t.Error("Free() =", s.Free())
	}
	for _, n := range []int{2095, 2096, 4000, 4094, 4095} {
		refusesTake(t, s, n, api.ErrFull)
	}
	m.stands(t, s)
	takes(t, s, 2094, 2002)
	takes(t, s, 2000, 1)
	refusesTake(t, s, 1, api.ErrFull)
}

// P17.1, P1: counts that no run has are told as such, of an empty space, one with some runs and a full one, and change nothing.
func TestTakeRefuses(t *testing.T) {
	for _, counts := range [][]int{nil, {3, 1, 7}, {room}} {
		s, m := taken(t, counts...)
		for _, n := range noCounts {
			refusesTake(t, s, n, api.ErrArg)
		}
		m.stands(t, s)
	}
}

// P17.1, P1: only where a run begins it is given: neither from its middle, nor where none is, nor twice; and nothing changes.
func TestGiveRefuses(t *testing.T) {
	s, m := taken(t, 3, 1, 4, 5)
	m.give(t, s, 4)
	m.give(t, s, 9)
	for _, first := range append(slices.Clone(noPages), 2, 3, 4, 6, 7, 8, 9, 10, 13, 14, 4094, 4095) {
		refusesGive(t, s, first, api.ErrMiss)
	}
	m.stands(t, s)
	gives(t, s, 1, 3)
	refusesGive(t, s, 1, api.ErrMiss)
	gives(t, s, 5, 4)
	for page := range pages {
		refusesGive(t, s, page, api.ErrMiss)
	}
	new(model).stands(t, s)
}

// P17.1: a run that is taken where another one was has its own count.
func TestTakenAgain(t *testing.T) {
	s, m := taken(t, 5, 1)
	gives(t, s, 1, 5)
	m.fill(1, 5, 0)
	m.take(t, s, 2)
	m.take(t, s, 2)
	m.stands(t, s)
	gives(t, s, 1, 2)
	gives(t, s, 3, 2)
	refusesGive(t, s, 5, api.ErrMiss)
	gives(t, s, 6, 1)
}

// P17.1, P17.2: many steps, against the model; a place that doesn't fit is refused and changes nothing.
func TestManySteps(t *testing.T) {
	for _, most := range []int{3, 40, 600, room} {
		s, m := space.New(), &model{}
		seed := uint32(most)
		next := func(n int) int {
			seed = seed*1664525 + 1013904223
			return int(seed>>8) % n
		}
		for step := range 400 {
			firsts := m.runs()
			switch what := next(8); {
			case what < 4:
				m.take(t, s, 1+next(most))
			case what < 7 && len(firsts) > 0:
				m.give(t, s, firsts[next(len(firsts))])
			default:
				m.give(t, s, next(pages))
			}
			m.stands(t, s)
			if t.Failed() {
				t.Fatalf("step %d, of up to %d pages", step, most)
			}
		}
	}
}

// P17.3: Runs answers new memory: what is done to it changes neither the space nor another answer.
func TestRunsAreNewMemory(t *testing.T) {
	s, m := taken(t, 3, 1, 4, 1, 5, 9)
	m.give(t, s, 4)
	one, other := s.Runs(), s.Runs()
	one = one[:cap(one)]
	for i := range one {
		one[i] = -7
	}
	if !slices.Equal(other, m.runs()) {
		t.Errorf("answers share memory: %v", other)
	}
	m.stands(t, s)
	grown := append(other, 99)
	m.take(t, s, 6)
	m.stands(t, s)
	if grown[len(grown)-1] != 99 {
		t.Errorf("what was appended is now %v", grown)
	}
}

// P17.3: what is done to the space changes no answer.
func TestAnswersStand(t *testing.T) {
	s, m := taken(t, 2, 2, 2, 2)
	before := s.Runs()
	for _, first := range []int{3, 1, 7} {
		m.give(t, s, first)
	}
	m.take(t, s, 1)
	m.take(t, s, 3)
	if !slices.Equal(before, []int{1, 3, 5, 7}) {
		t.Errorf("the answer is now %v", before)
	}
}

// Rule 5: spaces are apart from each other.
func TestApart(t *testing.T) {
	one, m := taken(t, 3, 4)
	other, n := taken(t, 7)
	n.give(t, other, 1)
	m.stands(t, one)
	n.stands(t, other)
	takes(t, other, 2, 1)
	m.stands(t, one)
}

// P17.1, P1: a nil space.
func TestNil(t *testing.T) {
	var s *space.Space
	for _, n := range append(slices.Clone(noCounts), 1, 2, room) {
		refusesTake(t, s, n, api.ErrArg)
	}
	for _, page := range append(slices.Clone(noPages), 1, 2, 4095) {
		refusesGive(t, s, page, api.ErrArg)
		hasNoRun(t, s, page)
	}
	if runs := s.Runs(); len(runs) != 0 || s.Free() != 0 {
		t.Errorf("Runs() = %v, Free() = %d", runs, s.Free())
	}
}

// P1: a space that New didn't make is as a new one.
func TestNotMade(t *testing.T) {
	s := &space.Space{}
	new(model).stands(t, s)
	takes(t, s, room, 1)
	gives(t, s, 1, room)
}
