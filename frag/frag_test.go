package frag_test

import (
	"fmt"
	"math"
	"testing"

	"messuage/api"
	"messuage/buddy"
	"messuage/frag"
)

// noOrders are numbers of no order.
var noOrders = []int{-1, -2, 11, 12, 63, 64, 65, 1 << 32, 1<<32 + 1, math.MaxInt, math.MaxInt - 1, math.MinInt, math.MinInt + 1}

func made(t *testing.T, n int) *buddy.Buddy {
	t.Helper()
	b, e := buddy.New(n)
	if b == nil || e != api.OK {
		t.Fatalf("New(%d) = %v, %d", n, b, e)
	}
	return b
}

func takes(t *testing.T, b *buddy.Buddy, orders ...int) {
	t.Helper()
	for _, order := range orders {
		if _, e := b.Take(order); e != api.OK {
			t.Fatalf("Take(%d): %d", order, e)
		}
	}
}

func index(t *testing.T, b *buddy.Buddy, order, want int) {
	t.Helper()
	if got, ok := frag.Index(b, order); got != want || !ok {
		t.Errorf("Index(%d) = %d, %v, not %d", order, got, ok, want)
	}
}

func noIndex(t *testing.T, b *buddy.Buddy, orders ...int) {
	t.Helper()
	for _, order := range orders {
		if got, ok := frag.Index(b, order); got != 0 || ok {
			t.Errorf("Index(%d) = %d, %v", order, got, ok)
		}
	}
}

func fits(t *testing.T, b *buddy.Buddy, order, want int) {
	t.Helper()
	if got := frag.Fits(b, order); got != want {
		t.Errorf("Fits(%d) = %d, not %d", order, got, want)
	}
}

func has(t *testing.T, b *buddy.Buddy, orders [11]int, largest int) {
	t.Helper()
	if got := frag.Orders(b); got != orders {
		t.Errorf("Orders() = %v, not %v", got, orders)
	}
	if got := frag.Largest(b); got != largest {
		t.Errorf("Largest() = %d, not %d", got, largest)
	}
}

// view is all that can be seen of a buddy.
func view(b *buddy.Buddy) string {
	s := fmt.Sprint(b.Len(), b.Free())
	for order := range 11 {
		s += fmt.Sprint(b.Has(order), b.Runs(order))
	}
	return s
}

// P28.1: the document's example, and the other calls of it.
func TestExample(t *testing.T) {
	b := made(t, 8)
	takes(t, b, 0)
	index(t, b, 2, 428)
	has(t, b, [11]int{1, 1, 1}, 2)
	index(t, b, 0, 0)
	index(t, b, 1, 142)
	index(t, b, 3, 1000)
	index(t, b, 10, 1000)
	fits(t, b, 0, 7)
	fits(t, b, 1, 3)
	fits(t, b, 2, 1)
	fits(t, b, 3, 0)
	fits(t, b, 10, 0)
}

// P28.1: one free run alone, of each order.
func TestOneRunAlone(t *testing.T) {
	for k := range 11 {
		b := made(t, 1<<k)
		var orders [11]int
		orders[k] = 1
		has(t, b, orders, k)
		for order := range 11 {
			if order <= k {
				index(t, b, order, 0)
				fits(t, b, order, 1<<(k-order))
			} else {
				index(t, b, order, 1000)
				fits(t, b, order, 0)
			}
		}
		// The same of one that is a part of 1024.
		if k == 10 {
			continue
		}
		whole := made(t, 1024)
		for half := 9; half >= k; half-- {
			takes(t, whole, half)
		}
		has(t, whole, orders, k)
		index(t, whole, k, 0)
		index(t, whole, k+1, 1000)
		fits(t, whole, 0, 1<<k)
	}
}

// P28.1: no free frame.
func TestNoFreeFrame(t *testing.T) {
	for k := range 11 {
		b := made(t, 1<<k)
		takes(t, b, k)
		has(t, b, [11]int{}, -1)
		for order := range 11 {
			noIndex(t, b, order)
			fits(t, b, order, 0)
		}
		noIndex(t, b, noOrders...)
	}
}

// P28.1: of no such order: 0, false.
func TestNoSuchOrder(t *testing.T) {
	for _, n := range []int{1, 8, 1024} {
		b := made(t, n)
		for _, order := range noOrders {
			noIndex(t, b, order)
			fits(t, b, order, 0)
		}
	}
}

// P28.1, P1: a nil buddy, and one that New didn't make, have nothing.
func TestNil(t *testing.T) {
	for _, b := range []*buddy.Buddy{nil, {}} {
		has(t, b, [11]int{}, -1)
		for _, order := range append([]int{0, 1, 5, 10}, noOrders...) {
			noIndex(t, b, order)
			fits(t, b, order, 0)
		}
	}
}

// P28.1: an index is rounded down.
func TestIndexIsRoundedDown(t *testing.T) {
	b := made(t, 1024)
	takes(t, b, 0)
	has(t, b, [11]int{1, 1, 1, 1, 1, 1, 1, 1, 1, 1}, 9)
	for order, small := range []int{0, 1, 3, 7, 15, 31, 63, 127, 255, 511, 1023} {
		index(t, b, order, small*1000/1023)
	}
	index(t, b, 1, 0)   // 0.97
	index(t, b, 9, 499) // 499.5
	// Of three free frames two are 666.6.
	c := made(t, 4)
	takes(t, c, 0)
	index(t, c, 1, 333)
	index(t, c, 2, 1000)
}

// P28.1: frames that are free apart, though many, are of no use.
func TestEveryOtherFrame(t *testing.T) {
	b := made(t, 1024)
	for range 1024 {
		takes(t, b, 0)
	}
	for at := 0; at < 1024; at += 2 {
		b.Give(at, 0)
	}
	has(t, b, [11]int{512}, 0)
	index(t, b, 0, 0)
	index(t, b, 1, 1000)
	fits(t, b, 0, 512)
	fits(t, b, 1, 0)
}

// script is steps of a buddy, that can be done once more.
type script struct {
	n     int
	steps []func(b *buddy.Buddy)
}

// again is a buddy to which the same was told.
func (s *script) again(t *testing.T) *buddy.Buddy {
	t.Helper()
	b := made(t, s.n)
	for _, step := range s.steps {
		step(b)
	}
	return b
}

// model tells by the words of the chapters what the calls answer: frame by frame.
func model(b *buddy.Buddy, order int) (orders [11]int, largest, small, free int) {
	largest = -1
	for k := range 11 {
		for range b.Runs(k) {
			orders[k]++
			largest = max(largest, k)
			for range 1 << k {
				free++
				if k < order {
					small++
				}
			}
		}
	}
	return orders, largest, small, free
}

// P28.1, P28.2: along many steps; as many runs of each order can be taken as Fits tells, and not one more; looking
// changes nothing.
func TestManySteps(t *testing.T) {
	seed := uint32(5)
	next := func(n int) int {
		seed = seed*1664525 + 1013904223
		return int(seed>>8) % n
	}
	for k := range 11 {
		s := &script{n: 1 << k}
		b := made(t, s.n)
		var taken [][2]int
		for range 120 {
			order := next(max(1, k-1))
			if next(3) > 0 || len(taken) == 0 {
				if at, e := b.Take(order); e == api.OK {
					taken = append(taken, [2]int{at, order})
				}
				s.steps = append(s.steps, func(b *buddy.Buddy) { b.Take(order) })
			} else {
				i := next(len(taken))
				run := taken[i]
				taken = append(taken[:i], taken[i+1:]...)
				b.Give(run[0], run[1])
				s.steps = append(s.steps, func(b *buddy.Buddy) { b.Give(run[0], run[1]) })
			}
			was := view(b)
			for order := range 11 {
				orders, largest, small, free := model(b, order)
				has(t, b, orders, largest)
				if free == 0 {
					noIndex(t, b, order)
				} else {
					index(t, b, order, 1000*small/free)
				}
				can := s.again(t)
				count := 0
				for _, e := can.Take(order); e == api.OK; _, e = can.Take(order) {
					count++
				}
				fits(t, b, order, count)
			}
			if now := view(b); now != was {
				t.Fatalf("looking changed %s to %s", was, now)
			}
		}
	}
}
