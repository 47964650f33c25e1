package span_test

import (
	"math"
	"testing"

	"messuage/api"
	"messuage/class"
	"messuage/span"
)

// noClasses are numbers of no class.
var noClasses = []int{-1, -2, -4, 4, 5, 8, 255, 256, 1 << 32, 1<<32 + 1, math.MaxInt, math.MaxInt - 1, math.MinInt, math.MinInt + 1}

// counts and sizes are those of each class, by the chapter of layer 12.
var (
	counts = []int{8, 4, 4, 4}
	sizes  = []int{8, 16, 32, 64}
)

// noObjects are numbers of no object of n.
func noObjects(n int) []int {
	return []int{-1, -2, -n, n, n + 1, 8, 64, 255, 256, 1 << 32, 1<<32 + 1, math.MaxInt, math.MaxInt - 1, math.MinInt, math.MinInt + 1}
}

func made(t *testing.T, c int) *span.Span {
	t.Helper()
	s, e := span.New(c)
	if e != api.OK || s == nil {
		t.Fatalf("New(%d) = %v, %d", c, s, e)
	}
	return s
}

// full is a span with all objects taken.
func full(t *testing.T, c int) *span.Span {
	t.Helper()
	s := made(t, c)
	for i := range counts[c] {
		takes(t, s, i)
	}
	return s
}

func takes(t *testing.T, s *span.Span, want int) {
	t.Helper()
	if i, e := s.Take(); i != want || e != api.OK {
		t.Errorf("Take() = %d, %d, not %d", i, e, want)
	}
}

func refusesTake(t *testing.T, s *span.Span, want api.Errno) {
	t.Helper()
	if i, e := s.Take(); i != 0 || e != want {
		t.Errorf("Take() = %d, %d, not 0, %d", i, e, want)
	}
}

func gives(t *testing.T, s *span.Span, i int, want api.Errno) {
	t.Helper()
	if e := s.Give(i); e != want {
		t.Errorf("Give(%d) = %d, not %d", i, e, want)
	}
}

func indexes(t *testing.T, s *span.Span, offset, want int, wantE api.Errno) {
	t.Helper()
	if i, e := s.Index(offset); i != want || e != wantE {
		t.Errorf("Index(%d) = %d, %d, not %d, %d", offset, i, e, want, wantE)
	}
}

// stands tells whether a span is of a class, with just those objects taken, by all calls that ask.
func stands(t *testing.T, s *span.Span, c int, taken []bool) {
	t.Helper()
	used := 0
	for i, want := range taken {
		if s.Has(i) != want {
			t.Errorf("class %d: Has(%d) isn't %v", c, i, want)
		}
		if want {
			used++
		}
	}
	for _, i := range noObjects(len(taken)) {
		if s.Has(i) {
			t.Errorf("class %d: Has(%d)", c, i)
		}
	}
	if s.Used() != used || s.Class() != c {
		t.Errorf("class %d: Used() = %d, not %d; Class() = %d", c, s.Used(), used, s.Class())
	}
	if s.Full() != (used == len(taken)) || s.Empty() != (used == 0) {
		t.Errorf("class %d, %d used: Full() = %v, Empty() = %v", c, used, s.Full(), s.Empty())
	}
}

// P13.1: New, of each class: none taken, and as many objects as the class has.
func TestNew(t *testing.T) {
	for c := range api.Classes {
		stands(t, made(t, c), c, make([]bool, counts[c]))
	}
}

// P13.1, P1: New of no class answers as class.Count does, and no span.
func TestNewNoClass(t *testing.T) {
	for _, c := range noClasses {
		_, want := class.Count(c)
		if s, e := span.New(c); s != nil || e != want || e != api.ErrArg {
			t.Errorf("New(%d) = %v, %d, not nil, %d", c, s, e, want)
		}
	}
}

// P13.1, P13.2: Take answers the objects in their order, from 0 to the last, and then that there is none.
func TestTakeAll(t *testing.T) {
	for c := range api.Classes {
		s := made(t, c)
		taken := make([]bool, counts[c])
		for i := range taken {
			takes(t, s, i)
			taken[i] = true
			stands(t, s, c, taken)
		}
		for range 3 {
			refusesTake(t, s, api.ErrFull)
			stands(t, s, c, taken)
		}
	}
}

// P13.1: each object of a full span may be given, the first and the last among them, and is the next one to be taken.
func TestGiveEach(t *testing.T) {
	for c := range api.Classes {
		for i := range counts[c] {
			s := full(t, c)
			taken := make([]bool, counts[c])
			for k := range taken {
				taken[k] = k != i
			}
			gives(t, s, i, api.OK)
			stands(t, s, c, taken)
			gives(t, s, i, api.ErrBad)
			stands(t, s, c, taken)
			takes(t, s, i)
			taken[i] = true
			stands(t, s, c, taken)
			refusesTake(t, s, api.ErrFull)
		}
	}
}

// P13.1: of several free objects the first is taken, in whichever order they were given.
func TestTakeFirst(t *testing.T) {
	for c := range api.Classes {
		last := counts[c] - 1
		for _, order := range [][]int{{last, 0, 2}, {0, 2, last}, {2, last, 0}} {
			s := full(t, c)
			for _, i := range order {
				gives(t, s, i, api.OK)
			}
			takes(t, s, 0)
			takes(t, s, 2)
			takes(t, s, last)
			refusesTake(t, s, api.ErrFull)
		}
	}
}

// P13.1: a span whose objects were all given is as a new one.
func TestEmptyAgain(t *testing.T) {
	for c := range api.Classes {
		s := full(t, c)
		for i := range counts[c] {
			gives(t, s, i, api.OK)
		}
		stands(t, s, c, make([]bool, counts[c]))
		takes(t, s, 0)
	}
}

// P13.1: what isn't taken can't be given, and no such refusal changes anything.
func TestGiveBad(t *testing.T) {
	for c := range api.Classes {
		s := made(t, c)
		for i := range counts[c] {
			gives(t, s, i, api.ErrBad)
		}
		stands(t, s, c, make([]bool, counts[c]))
		takes(t, s, 0)
		gives(t, s, 1, api.ErrBad)
		taken := make([]bool, counts[c])
		taken[0] = true
		stands(t, s, c, taken)
	}
}

// P13.1, P1: numbers of no object are never taken, be the span empty or full, and no such refusal changes anything.
func TestNoObject(t *testing.T) {
	for c, n := range counts {
		empty, filled := made(t, c), full(t, c)
		all := make([]bool, n)
		for i := range all {
			all[i] = true
		}
		for _, i := range noObjects(n) {
			gives(t, empty, i, api.ErrBad)
			gives(t, filled, i, api.ErrBad)
		}
		stands(t, empty, c, make([]bool, n))
		stands(t, filled, c, all)
	}
}

// P13.1: Index, at all bytes of a span and around it: an object begins at each multiple of its size, be it taken or free.
func TestIndex(t *testing.T) {
	for c, n := range counts {
		empty, filled := made(t, c), full(t, c)
		bytes := n * sizes[c]
		for offset := -2 * bytes; offset <= 3*bytes; offset++ {
			want, wantE := 0, api.ErrBad
			for i := range n {
				if offset == i*sizes[c] {
					want, wantE = i, api.OK
				}
			}
			indexes(t, empty, offset, want, wantE)
			indexes(t, filled, offset, want, wantE)
		}
		if !empty.Empty() || !filled.Full() {
			t.Errorf("class %d: Index has changed a span", c)
		}
	}
}

// P13.1: Index, some by hand: the first object, the last one, and what is behind it.
func TestIndexEdges(t *testing.T) {
	for c, last := range []int{56, 48, 96, 192} {
		s := made(t, c)
		indexes(t, s, 0, 0, api.OK)
		indexes(t, s, 1, 0, api.ErrBad)
		indexes(t, s, sizes[c]-1, 0, api.ErrBad)
		indexes(t, s, sizes[c], 1, api.OK)
		indexes(t, s, last-1, 0, api.ErrBad)
		indexes(t, s, last, counts[c]-1, api.OK)
		indexes(t, s, last+1, 0, api.ErrBad)
		indexes(t, s, last+sizes[c], 0, api.ErrBad)
		indexes(t, s, -sizes[c], 0, api.ErrBad)
	}
}

// P13.1, P1: Index, far away.
func TestIndexFar(t *testing.T) {
	far := []int{1 << 31, 1 << 32, 1<<32 + 64, 1 << 62, math.MaxInt, math.MaxInt - 63, -1 << 32, math.MinInt, math.MinInt + 1, math.MinInt + 64}
	for c := range api.Classes {
		s := made(t, c)
		for _, offset := range far {
			indexes(t, s, offset, 0, api.ErrBad)
		}
	}
}

// asNil tells whether a span answers as the chapter says of a nil one.
func asNil(t *testing.T, s *span.Span) {
	t.Helper()
	refusesTake(t, s, api.ErrArg)
	for _, i := range append(noObjects(4), 0, 1, 2, 3, 7) {
		gives(t, s, i, api.ErrArg)
		indexes(t, s, i, 0, api.ErrArg)
		if s.Has(i) {
			t.Errorf("Has(%d)", i)
		}
	}
	if s.Used() != 0 || s.Class() != -1 || s.Full() || !s.Empty() {
		t.Error("Used, Class, Full or Empty", s.Used(), s.Class(), s.Full(), s.Empty())
	}
}

// P13.1, P1: a nil span.
func TestNil(t *testing.T) {
	asNil(t, nil)
}

// P1: a span that New didn't make has no objects, and answers as a nil one.
func TestNotMade(t *testing.T) {
	asNil(t, &span.Span{})
	asNil(t, new(span.Span))
}

// Rule 5: spans are apart from each other, those of one class too.
func TestApart(t *testing.T) {
	for c, n := range counts {
		one, other := made(t, c), made(t, c)
		takes(t, one, 0)
		takes(t, one, 1)
		stands(t, other, c, make([]bool, n))
		takes(t, other, 0)
		gives(t, other, 0, api.OK)
		gives(t, other, 1, api.ErrBad)
		takes(t, one, 2)
		if one.Used() != 3 || !one.Has(0) || !one.Has(1) || !other.Empty() {
			t.Errorf("class %d: one span changed another", c)
		}
	}
}

// P13.1: the chapter's example.
func TestExample(t *testing.T) {
	s := made(t, 1)
	takes(t, s, 0)
	takes(t, s, 1)
	gives(t, s, 0, api.OK)
	takes(t, s, 0)
	indexes(t, s, 32, 2, api.OK)
}

// model is a span, object by object.
type model []bool

func (m model) take() (int, api.Errno) {
	for i, taken := range m {
		if !taken {
			m[i] = true
			return i, api.OK
		}
	}
	return 0, api.ErrFull
}

func (m model) give(i int) api.Errno {
	if i < 0 || i >= len(m) || !m[i] {
		return api.ErrBad
	}
	m[i] = false
	return api.OK
}

// P13.1, P13.2: many steps, against the model; what is taken is never taken again, till it is given.
func TestManySteps(t *testing.T) {
	for c, n := range counts {
		s, m := made(t, c), make(model, n)
		seed := uint32(c + 1)
		for step := range 3000 {
			seed = seed*1664525 + 1013904223
			// Takes are now one in four and now three in four, so that the span is nearly empty and nearly full by turns.
			takesOf4 := 1 + step/50%2*2
			if int(seed>>30) >= takesOf4 {
				i := int(seed>>16)%(n+2) - 1
				gives(t, s, i, m.give(i))
			} else {
				held := append(model(nil), m...)
				want, wantE := m.take()
				got, e := s.Take()
				if got != want || e != wantE || e == api.OK && held[got] {
					t.Fatalf("class %d: Take() = %d, %d, not %d, %d", c, got, e, want, wantE)
				}
			}
			stands(t, s, c, m)
		}
	}
}
