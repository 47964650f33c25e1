package ring_test

import (
	"math"
	"slices"
	"strconv"
	"testing"

	"messuage/api"
	"messuage/ring"
)

// noSizes are rooms that no ring has.
var noSizes = []int{0, -1, -2, -64, 65, 66, 128, 256, 1 << 32, 1<<32 + 1, math.MaxInt, math.MaxInt - 1, math.MinInt, math.MinInt + 1}

// greatest is how much room a ring may have, by the chapter.
const greatest = 64

func number(n int) int { return n }

// word is a text; the first one is the empty one, a thing as others are.
func word(n int) string {
	if n == 0 {
		return ""
	}
	return "w" + strconv.Itoa(n)
}

func made[T any](t *testing.T, size int) *ring.Ring[T] {
	t.Helper()
	r, e := ring.New[T](size)
	if e != api.OK || r == nil {
		t.Fatalf("New(%d) = %v, %d", size, r, e)
	}
	return r
}

func puts[T any](t *testing.T, r *ring.Ring[T], x T, want bool) {
	t.Helper()
	if r.Put(x) != want {
		t.Errorf("Put(%v) isn't %v", x, want)
	}
}

func takes[T comparable](t *testing.T, r *ring.Ring[T], want T) {
	t.Helper()
	if x, ok := r.Take(); x != want || !ok {
		t.Errorf("Take() = %v, %v, not %v", x, ok, want)
	}
}

func takesNone[T comparable](t *testing.T, r *ring.Ring[T]) {
	t.Helper()
	var zero T
	if x, ok := r.Take(); x != zero || ok {
		t.Errorf("Take() = %v, %v, of none", x, ok)
	}
}

// counts tells whether so many are in it, and so many more may be.
func counts[T any](t *testing.T, r *ring.Ring[T], in, room int) {
	t.Helper()
	if r.Len() != in || r.Room() != room {
		t.Errorf("Len() = %d, Room() = %d, not %d, %d", r.Len(), r.Room(), in, room)
	}
}

func takesAll[T comparable](t *testing.T, r *ring.Ring[T], want []T) {
	t.Helper()
	if all := r.All(); !slices.Equal(all, want) {
		t.Errorf("All() = %v, not %v", all, want)
	}
}

// P14.1, P14.2: of numbers, of texts, and of other things, at all rooms from the least to the greatest.
func TestRingsOfWhatever(t *testing.T) {
	type pair struct {
		n int
		s string
	}
	for size := 1; size <= greatest; size++ {
		testRing(t, size, number)
		testRing(t, size, word)
		testRing(t, size, func(n int) pair { return pair{n, word(n)} })
		testRing(t, size, func(n int) any { return word(n) })
		testRing(t, size, func(n int) struct{} { return struct{}{} })
	}
}

func testRing[T comparable](t *testing.T, size int, thing func(n int) T) {
	t.Helper()
	testEmpty(t, made[T](t, size), size)
	testFillAndTake(t, size, thing)
	testFillAndTakeAll(t, size, thing)
	testRounds(t, size, thing)
}

// testEmpty: there is nothing in it, how often one asks.
func testEmpty[T comparable](t *testing.T, r *ring.Ring[T], size int) {
	t.Helper()
	for range 2 {
		counts(t, r, 0, size)
		takesNone(t, r)
		takesAll(t, r, nil)
	}
}

// testFillAndTake: as many go in as there is room for; what doesn't go in changes nothing; they come out one by one.
func testFillAndTake[T comparable](t *testing.T, size int, thing func(n int) T) {
	t.Helper()
	r := made[T](t, size)
	for n := range size {
		counts(t, r, n, size-n)
		puts(t, r, thing(n), true)
	}
	for n := range 3 {
		puts(t, r, thing(1000+n), false)
		counts(t, r, size, 0)
	}
	for n := range size {
		takes(t, r, thing(n))
		counts(t, r, size-n-1, n+1)
	}
	testEmpty(t, r, size)
}

// testFillAndTakeAll: All takes out what is in it, be it few or many, and leaves all the room.
func testFillAndTakeAll[T comparable](t *testing.T, size int, thing func(n int) T) {
	t.Helper()
	r := made[T](t, size)
	for _, many := range []int{1, (size + 1) / 2, size} {
		var want []T
		for n := range many {
			puts(t, r, thing(n), true)
			want = append(want, thing(n))
		}
		takesAll(t, r, want)
		testEmpty(t, r, size)
	}
}

// testRounds: many more than there is room for go through, with now few and now many in it.
func testRounds[T comparable](t *testing.T, size int, thing func(n int) T) {
	t.Helper()
	r := made[T](t, size)
	put, taken := 0, 0
	for round := range 40 {
		for r.Room() > round%size {
			puts(t, r, thing(put), true)
			put++
		}
		for r.Len() > round*7%size {
			takes(t, r, thing(taken))
			taken++
		}
		counts(t, r, put-taken, size-put+taken)
	}
	for taken < put {
		takes(t, r, thing(taken))
		taken++
	}
	testEmpty(t, r, size)
}

// P14.1, P14.2: many steps, against a list; each thing is another one, so that none can be taken again unseen.
func TestManySteps(t *testing.T) {
	for _, size := range []int{1, 2, 3, 8, 16, 63, 64} {
		testSteps(t, size, number)
		testSteps(t, size, word)
	}
}

func testSteps[T comparable](t *testing.T, size int, thing func(n int) T) {
	t.Helper()
	r := made[T](t, size)
	var list []T
	seed := uint32(size)
	for step := range 5000 {
		seed = seed*1664525 + 1013904223
		// Puts are now one in four and now three in four, so that the ring is nearly empty and nearly full by turns.
		putsOf4 := 1 + step/150%2*2
		switch {
		case seed>>22 == 0:
			takesAll(t, r, list)
			list = nil
		case int(seed>>30) < putsOf4:
			room := len(list) < size
			puts(t, r, thing(step), room)
			if room {
				list = append(list, thing(step))
			}
		case len(list) == 0:
			takesNone(t, r)
		default:
			takes(t, r, list[0])
			list = list[1:]
		}
		counts(t, r, len(list), size-len(list))
		if t.Failed() {
			t.Fatalf("size %d, step %d", size, step)
		}
	}
	takesAll(t, r, list)
}

// P14.1, P1: rooms that no ring has.
func TestNewRefuses(t *testing.T) {
	for _, size := range noSizes {
		if r, e := ring.New[int](size); r != nil || e != api.ErrCount {
			t.Errorf("New(%d) = %v, %d", size, r, e)
		}
		if r, e := ring.New[string](size); r != nil || e != api.ErrCount {
			t.Errorf("New(%d) = %v, %d", size, r, e)
		}
	}
}

// P14.1: the document's example, and the least room.
func TestExample(t *testing.T) {
	r := made[string](t, 1)
	puts(t, r, "a", true)
	puts(t, r, "b", false)
	takes(t, r, "a")
	takesNone(t, r)
	puts(t, r, "b", true)
	takes(t, r, "b")
}

// P14.2: the same thing, put more than once, is taken as often.
func TestOneThingOften(t *testing.T) {
	r := made[int](t, 4)
	for _, x := range []int{5, 5, 0, 5} {
		puts(t, r, x, true)
	}
	takes(t, r, 5)
	takesAll(t, r, []int{5, 0, 5})
	takesNone(t, r)
}

// P14.1: things that can't be compared, and nothing at all, are things as others are.
func TestStrangeThings(t *testing.T) {
	lists := made[[]int](t, 2)
	puts(t, lists, nil, true)
	puts(t, lists, []int{1, 2}, true)
	if x, ok := lists.Take(); x != nil || !ok {
		t.Errorf("Take() = %v, %v", x, ok)
	}
	if x, ok := lists.Take(); !slices.Equal(x, []int{1, 2}) || !ok {
		t.Errorf("Take() = %v, %v", x, ok)
	}
	anything := made[any](t, 3)
	puts(t, anything, nil, true)
	puts(t, anything, any(7), true)
	puts(t, anything, any([]int{8}), true)
	if all := anything.All(); len(all) != 3 || all[0] != nil || all[1] != 7 || !slices.Equal(all[2].([]int), []int{8}) {
		t.Errorf("All() = %v", all)
	}
	rings := made[*ring.Ring[int]](t, 1)
	puts(t, rings, nil, true)
	takes(t, rings, nil)
	takesNone(t, rings)
}

// Rule 4: what All answers is new memory, to the end of its room: neither the ring nor another answer has it.
func TestAllIsNewMemory(t *testing.T) {
	r := made[int](t, 4)
	var answers [][]int
	for round := range 5 {
		for n := range 3 {
			puts(t, r, 10*round+n, true)
		}
		answers = append(answers, r.All())
	}
	puts(t, r, 90, true)
	puts(t, r, 91, true)
	for round, answer := range answers {
		if !slices.Equal(answer, []int{10 * round, 10*round + 1, 10*round + 2}) {
			t.Errorf("answer %d is now %v", round, answer)
		}
		answer = answer[:cap(answer)]
		for i := range answer {
			answer[i] = -1
		}
	}
	takesAll(t, r, []int{90, 91})
}

// Rule 5: rings are apart from each other.
func TestApart(t *testing.T) {
	one, other := made[string](t, 2), made[string](t, 2)
	puts(t, one, "a", true)
	puts(t, one, "b", true)
	testEmpty(t, other, 2)
	puts(t, other, "c", true)
	counts(t, one, 2, 0)
	takesAll(t, one, []string{"a", "b"})
	takesAll(t, other, []string{"c"})
}

// asNil tells whether a ring answers as the chapter says of a nil one.
func asNil[T comparable](t *testing.T, r *ring.Ring[T], x T) {
	t.Helper()
	for range 2 {
		puts(t, r, x, false)
		testEmpty(t, r, 0)
	}
}

// P14.1, P1: a nil ring.
func TestNil(t *testing.T) {
	asNil(t, nil, 7)
	asNil(t, nil, "a")
	asNil(t, nil, any(7))
}

// P1: a ring that New didn't make has no room, and answers as a nil one.
func TestNotMade(t *testing.T) {
	asNil(t, &ring.Ring[int]{}, 7)
	asNil(t, new(ring.Ring[string]), "a")
}
