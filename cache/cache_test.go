package cache_test

import (
	"math"
	"slices"
	"testing"

	"messuage/api"
	"messuage/cache"
)

// noClasses are numbers of no class.
var noClasses = []int{-1, -2, -4, 4, 5, 8, 255, 256, 1 << 32, 1<<32 + 1, math.MaxInt, math.MaxInt - 1, math.MinInt, math.MinInt + 1}

// noCounts are counts of which Flush answers none.
var noCounts = []int{0, -1, -2, -8, -1 << 32, math.MinInt, math.MinInt + 1}

// The counts of classes, and of addresses of each, by the chapter.
const (
	classes = 4
	room    = 8
)

func pushes(t *testing.T, c *cache.Cache, class, addr int, want bool, wantE api.Errno) {
	t.Helper()
	if ok, e := c.Push(class, addr); ok != want || e != wantE {
		t.Errorf("Push(%d, %d) = %v, %d, not %v, %d", class, addr, ok, e, want, wantE)
	}
}

func pops(t *testing.T, c *cache.Cache, class, want int) {
	t.Helper()
	if addr, ok := c.Pop(class); addr != want || !ok {
		t.Errorf("Pop(%d) = %d, %v, not %d", class, addr, ok, want)
	}
}

func popsNone(t *testing.T, c *cache.Cache, class int) {
	t.Helper()
	if addr, ok := c.Pop(class); addr != 0 || ok {
		t.Errorf("Pop(%d) = %d, %v, of none", class, addr, ok)
	}
}

func flushes(t *testing.T, c *cache.Cache, class, n int, want ...int) {
	t.Helper()
	if got := c.Flush(class, n); !slices.Equal(got, want) {
		t.Errorf("Flush(%d, %d) = %v, not %v", class, n, got, want)
	}
}

func takesAll(t *testing.T, c *cache.Cache, want ...int) {
	t.Helper()
	if got := c.All(); !slices.Equal(got, want) {
		t.Errorf("All() = %v, not %v", got, want)
	}
}

// counts tells whether there are so many of each class.
func counts(t *testing.T, c *cache.Cache, want ...int) {
	t.Helper()
	for class, n := range want {
		if got := c.Len(class); got != n {
			t.Errorf("Len(%d) = %d, not %d", class, got, n)
		}
	}
}

// addrs are n addresses of a class, each of them another one.
func addrs(class, n int) []int {
	var list []int
	for i := range n {
		list = append(list, 1000*class+8*i)
	}
	return list
}

// filled is a cache with so many of each class.
func filled(t *testing.T, many ...int) *cache.Cache {
	t.Helper()
	c := cache.New()
	for class, n := range many {
		for _, addr := range addrs(class, n) {
			pushes(t, c, class, addr, true, api.OK)
		}
	}
	return c
}

// isEmpty tells whether there is nothing in it, by all calls that ask.
func isEmpty(t *testing.T, c *cache.Cache) {
	t.Helper()
	for class := range classes {
		if c.Len(class) != 0 {
			t.Errorf("Len(%d) = %d", class, c.Len(class))
		}
		popsNone(t, c, class)
		flushes(t, c, class, 1)
		flushes(t, c, class, room)
	}
	takesAll(t, c)
}

// P15.1: New: there is nothing in it.
func TestNew(t *testing.T) {
	c := cache.New()
	if c == nil {
		t.Fatal("New() = nil")
	}
	isEmpty(t, c)
	isEmpty(t, c)
}

// P15.1: of each class as many as there is room for, whatever the others have; what doesn't go in changes nothing.
func TestPushUpToTheRoom(t *testing.T) {
	if classes != api.Classes || room != api.CacheSize {
		t.Fatal("limits")
	}
	c := cache.New()
	var want []int
	for class := range classes {
		for i, addr := range addrs(class, room) {
			pushes(t, c, class, addr, true, api.OK)
			if c.Len(class) != i+1 {
				t.Errorf("Len(%d) = %d, not %d", class, c.Len(class), i+1)
			}
		}
		for range 3 {
			pushes(t, c, class, 77, false, api.OK)
		}
		if c.Len(class) != room {
			t.Errorf("Len(%d) = %d", class, c.Len(class))
		}
		want = append(want, addrs(class, room)...)
	}
	takesAll(t, c, want...)
	isEmpty(t, c)
}

// P15.1, P15.2: what was pushed last is popped first, of each class, from a full one to an empty one.
func TestPop(t *testing.T) {
	for class := range classes {
		c := filled(t, room, room, room, room)
		list := addrs(class, room)
		for i := room - 1; i >= 0; i-- {
			pops(t, c, class, list[i])
			if c.Len(class) != i {
				t.Errorf("Len(%d) = %d, not %d", class, c.Len(class), i)
			}
		}
		popsNone(t, c, class)
		popsNone(t, c, class)
		for other := range classes {
			if other != class && c.Len(other) != room {
				t.Errorf("Pop(%d) has changed class %d", class, other)
			}
		}
		pushes(t, c, class, 5, true, api.OK)
		pops(t, c, class, 5)
	}
}

// P15.1, P15.2: what was pushed first is flushed first: each count, of each class, with few and with many in it.
func TestFlush(t *testing.T) {
	for class := range classes {
		for has := range room + 1 {
			for n := 1; n <= room+2; n++ {
				many := []int{3, 3, 3, 3}
				many[class] = has
				c := filled(t, many...)
				list, gone := addrs(class, has), min(n, has)
				flushes(t, c, class, n, list[:gone]...)
				many[class] = has - gone
				counts(t, c, many...)
				flushes(t, c, class, room, list[gone:]...)
				many[class] = 0
				counts(t, c, many...)
			}
		}
	}
}

// P15.1: all, if there are fewer; also of counts that are far too great.
func TestFlushFar(t *testing.T) {
	for class := range classes {
		for _, n := range []int{9, 64, 1 << 31, 1 << 32, 1<<32 + 1, math.MaxInt, math.MaxInt - 1} {
			c := filled(t, 5, 5, 5, 5)
			flushes(t, c, class, n, addrs(class, 5)...)
			flushes(t, c, class, n)
			popsNone(t, c, class)
		}
	}
}

// P15.1: none, if n is below 1, and nothing is gone.
func TestFlushNone(t *testing.T) {
	for _, has := range []int{0, 1, room} {
		c := filled(t, has, has, has, has)
		for class := range classes {
			for _, n := range noCounts {
				flushes(t, c, class, n)
			}
		}
		counts(t, c, has, has, has, has)
		var want []int
		for class := range classes {
			want = append(want, addrs(class, has)...)
		}
		takesAll(t, c, want...)
	}
}

// P15.1: All, class by class, whichever classes have something and whichever was pushed first.
func TestAll(t *testing.T) {
	for _, many := range [][]int{{0, 0, 0, 1}, {1, 0, 0, 0}, {8, 0, 0, 8}, {0, 3, 1, 0}, {1, 2, 3, 4}, {8, 8, 8, 8}} {
		c := cache.New()
		var want []int
		for class := range classes {
			want = append(want, addrs(class, many[class])...)
		}
		for i := range room {
			for class := classes - 1; class >= 0; class-- {
				if i < many[class] {
					pushes(t, c, class, addrs(class, room)[i], true, api.OK)
				}
			}
		}
		takesAll(t, c, want...)
		isEmpty(t, c)
		pushes(t, c, 2, 9, true, api.OK)
		takesAll(t, c, 9)
	}
}

// P15.1, P1: what is no class is told, has nothing, and changes nothing.
func TestNoClass(t *testing.T) {
	c := filled(t, 1, 2, 3, 4)
	for _, class := range noClasses {
		pushes(t, c, class, 7, false, api.ErrArg)
		popsNone(t, c, class)
		for _, n := range append(slices.Clone(noCounts), 1, 4, room, math.MaxInt) {
			flushes(t, c, class, n)
		}
		if c.Len(class) != 0 {
			t.Errorf("Len(%d) = %d", class, c.Len(class))
		}
	}
	counts(t, c, 1, 2, 3, 4)
	full := filled(t, room, room, room, room)
	for _, class := range noClasses {
		pushes(t, full, class, 7, false, api.ErrArg)
	}
	counts(t, full, room, room, room, room)
}

// P15.1: addresses are kept as they are, whichever number, and one more than once.
func TestAnyAddress(t *testing.T) {
	list := []int{0, -1, math.MaxInt, math.MinInt, 0, 64, 64, 0}
	for class := range classes {
		c := cache.New()
		for _, addr := range list {
			pushes(t, c, class, addr, true, api.OK)
		}
		pops(t, c, class, 0)
		pops(t, c, class, 64)
		flushes(t, c, class, 2, 0, -1)
		takesAll(t, c, math.MaxInt, math.MinInt, 0, 64)
	}
}

// P15.2: the document's example.
func TestExample(t *testing.T) {
	c := cache.New()
	for addr := 1; addr <= 3; addr++ {
		pushes(t, c, 0, addr, true, api.OK)
	}
	pops(t, c, 0, 3)
	flushes(t, c, 0, 1, 1)
	counts(t, c, 1)
	pops(t, c, 0, 2)
}

// model is a cache, list by list.
type model [classes][]int

func (m *model) all() []int {
	var all []int
	for class := range m {
		all = append(all, m[class]...)
	}
	*m = model{}
	return all
}

// step makes one step at a cache and at the model.
func (m *model) step(t *testing.T, c *cache.Cache, what, class, x int) {
	t.Helper()
	list := m[class]
	switch {
	case what < 8 && len(list) < room:
		pushes(t, c, class, x, true, api.OK)
		m[class] = append(list, x)
	case what < 8:
		pushes(t, c, class, x, false, api.OK)
	case what < 12 && len(list) == 0:
		popsNone(t, c, class)
	case what < 12:
		pops(t, c, class, list[len(list)-1])
		m[class] = slices.Clone(list[:len(list)-1])
	case what < 15:
		gone := max(0, min(x%12-2, len(list)))
		flushes(t, c, class, x%12-2, list[:gone]...)
		m[class] = slices.Clone(list[gone:])
	case x%16 == 0:
		takesAll(t, c, m.all()...)
	}
}

// P15.1, P15.2: many steps, against the model.
func TestManySteps(t *testing.T) {
	c := cache.New()
	var m model
	seed := uint32(6)
	for step := range 20000 {
		seed = seed*1664525 + 1013904223
		m.step(t, c, int(seed>>28), int(seed>>26)%classes, int(seed>>8)%65536)
		for class := range classes {
			if c.Len(class) != len(m[class]) {
				t.Errorf("Len(%d) = %d, not %d", class, c.Len(class), len(m[class]))
			}
		}
		if t.Failed() {
			t.Fatalf("step %d", step)
		}
	}
	takesAll(t, c, m.all()...)
}

// spoil writes all over an answer, to the end of its room.
func spoil(list []int) {
	list = list[:cap(list)]
	for i := range list {
		list[i] = -7
	}
}

// P15.3: answers are new memory: what is done to them changes neither the cache nor another answer.
func TestAnswersAreNewMemory(t *testing.T) {
	for class := range classes {
		c := filled(t, room, room, room, room)
		list := addrs(class, room)
		first := c.Flush(class, 2)
		second := c.Flush(class, 3)
		spoil(first)
		if !slices.Equal(second, list[2:5]) {
			t.Errorf("class %d: answers share memory: %v", class, second)
		}
		spoil(second)
		pushes(t, c, class, 1, true, api.OK)
		flushes(t, c, class, room, list[5], list[6], list[7], 1)
		all := filled(t, room, room, room, room)
		part := all.Flush(class, room)
		spoil(all.All())
		if !slices.Equal(part, list) {
			t.Errorf("class %d: Flush and All share memory: %v", class, part)
		}
		spoil(part)
		isEmpty(t, all)
	}
}

// P15.3: what is done to the cache changes no answer.
func TestAnswersStand(t *testing.T) {
	for class := range classes {
		c := filled(t, room, room, room, room)
		flushed := c.Flush(class, 3)
		for range 3 {
			pushes(t, c, class, 99, true, api.OK)
		}
		rest := c.Flush(class, room)
		all := c.All()
		for range room {
			for other := range classes {
				pushes(t, c, other, 98, true, api.OK)
			}
		}
		list := addrs(class, room)
		if !slices.Equal(flushed, list[:3]) || !slices.Equal(rest, append(list[3:], 99, 99, 99)) {
			t.Errorf("class %d: answers are now %v, %v", class, flushed, rest)
		}
		if len(all) != 3*room || slices.Contains(all, 98) {
			t.Errorf("class %d: All is now %v", class, all)
		}
	}
}

// Rule 5: caches are apart from each other.
func TestApart(t *testing.T) {
	one, other := filled(t, 2, 2, 2, 2), cache.New()
	isEmpty(t, other)
	pushes(t, other, 1, 5, true, api.OK)
	counts(t, one, 2, 2, 2, 2)
	pops(t, one, 1, 1008)
	takesAll(t, other, 5)
}

// P15.1, P1: a nil cache.
func TestNil(t *testing.T) {
	var c *cache.Cache
	for _, class := range append(slices.Clone(noClasses), 0, 1, 2, 3) {
		pushes(t, c, class, 7, false, api.ErrArg)
		popsNone(t, c, class)
		for _, n := range append(slices.Clone(noCounts), 1, room, math.MaxInt) {
			flushes(t, c, class, n)
		}
		if c.Len(class) != 0 {
			t.Errorf("Len(%d) = %d", class, c.Len(class))
		}
	}
	takesAll(t, c)
}

// P1: a cache that New didn't make is an empty one.
func TestNotMade(t *testing.T) {
	c := &cache.Cache{}
	isEmpty(t, c)
	pushes(t, c, 3, 7, true, api.OK)
	pops(t, c, 3, 7)
}
