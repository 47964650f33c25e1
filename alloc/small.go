package alloc

import (
	"cmp"
	"slices"

	"messuage/api"
	"messuage/class"
	"messuage/policy"
	"messuage/span"
	"messuage/zone"
)

// batch is how many objects go between a span and a cache at once.
const batch = 4

// heldSpan is a span of the machine, on as many pages as frames.
type heldSpan struct {
	*span.Span
	page, frame, node int // the first page, the first frame, and its node
}

// address is that of an object of the span.
func (s *heldSpan) address(object int) int {
	return s.page*api.PageSize + object*sizeOf(s.Class())
}

// Drain gives all objects of a node's queue back to their spans: how many.
func (m *Machine) Drain(node int) (int, api.Errno) {
	if e := m.checkNode(node); e != api.OK {
		return 0, e
	}
	return m.giveBack(m.queues[node].All()), api.OK
}

// Flush gives all objects of a CPU's cache back to their spans: how many.
func (m *Machine) Flush(cpu int) (int, api.Errno) {
	if e := m.checkCPU(cpu); e != api.OK {
		return 0, e
	}
	return m.giveBack(m.cpus[cpu].cache.All()), api.OK
}

// Release makes the frames and pages of all spans without a taken object free: how many spans.
func (m *Machine) Release() int {
	if !m.isMade() {
		return 0
	}
	var kept []*heldSpan
	for _, s := range m.spans {
		if s.Empty() {
			m.dissolve(s)
		} else {
			kept = append(kept, s)
		}
	}
	released := len(m.spans) - len(kept)
	m.spans = kept
	return released
}

// Spans are all spans, rising by Page.
func (m *Machine) Spans() []Span {
	if !m.isMade() {
		return nil
	}
	var list []Span
	for _, s := range m.spans {
		list = append(list, Span{Page: s.page, Node: s.node, Class: s.Class(), Used: s.Used()})
	}
	return list
}

// placeSmall is the address of an object of the least class that has room for n bytes, all noughts; false if there is none.
func (m *Machine) placeSmall(cpu, n int) (int, bool) {
	// Of has a class for each size that is small.
	c, _ := class.Of(n)
	addr, found := m.cpus[cpu].cache.Pop(c)
	if !found {
		addr, found = m.cut(cpu, c)
	}
	if !found {
		return 0, false
	}
	m.memory.Write(addr, make([]byte, sizeOf(c)))
	return addr, true
}

// cut takes objects out of one span: the first of them, while the CPU's cache, which has none, gets the others.
func (m *Machine) cut(cpu, c int) (int, bool) {
	var s *heldSpan
	found := m.twice(cpu, func() bool {
		s = m.roomySpan(cpu, c)
		return s != nil
	})
	if !found {
		return 0, false
	}
	first, _ := s.Take()
	for range batch - 1 {
		object, e := s.Take()
		if e != api.OK {
			break
		}
		m.cpus[cpu].cache.Push(c, s.address(object))
	}
	return s.address(first), true
}

// roomySpan is a span of a class that isn't full, for a CPU: one that is there ahead of a new one; nil if none can be.
func (m *Machine) roomySpan(cpu, c int) *heldSpan {
	if s := m.nearestSpan(cpu, c); s != nil {
		return s
	}
	return m.newSpan(cpu, c)
}

// nearestSpan is, of the spans of a class that aren't full, on nodes that the CPU's policy permits, the one that is
// nearest to the CPU's node; nil if there is none.
func (m *Machine) nearestSpan(cpu, c int) *heldSpan {
	// SetPolicy has seen that it is a policy, so that it permits some nodes.
	permitted, _ := policy.Permitted(m.cpus[cpu].policy, m.topo.Nodes)
	nodes, _ := zone.Within(m.topo, m.topo.CPUs[cpu], permitted)
	var nearest *heldSpan
	best := len(nodes)
	for _, s := range m.spans {
		if s.Class() != c || s.Full() {
			continue
		}
		// On the same node the one that comes first has the lower page.
		if place := slices.Index(nodes, s.node); place >= 0 && place < best {
			best, nearest = place, s
		}
	}
	return nearest
}

// newSpan makes a span of a class, of frames that the CPU acquires; nil if there are no pages or no frames for it.
func (m *Machine) newSpan(cpu, c int) *heldSpan {
	order, _ := class.Order(c)
	// Pages come first: without them no frames are acquired, which would be an event.
	page, e := m.space.Take(1 << order)
	if e != api.OK {
		return nil
	}
	frame, node, found := m.acquire(cpu, order, m.cpus[cpu].policy)
	if !found {
		m.space.Give(page)
		return nil
	}
	for i := range 1 << order {
		m.memory.Map(page+i, frame+i)
	}
	objects, _ := span.New(c)
	s := &heldSpan{Span: objects, page: page, frame: frame, node: node}
	at, _ := m.find(page)
	m.spans = slices.Insert(m.spans, at, s)
	return s
}

// dissolve makes a span's frames and pages free.
func (m *Machine) dissolve(s *heldSpan) {
	order, _ := class.Order(s.Class())
	for i := range 1 << order {
		m.memory.Unmap(s.page + i)
	}
	m.heap.Give(s.frame, order)
	m.space.Give(s.page)
}

// freeSmall hands an object that isn't live any more to the CPU's cache, if it is of the CPU's node, or else to the
// queue of its own node.
func (m *Machine) freeSmall(cpu, addr int) {
	s := m.spanOf(addr / api.PageSize)
	if s.node != m.topo.CPUs[cpu] {
		if !m.queues[s.node].Put(addr) {
			m.giveBack([]int{addr})
		}
		return
	}
	kept := m.cpus[cpu].cache
	if kept.Len(s.Class()) == api.CacheSize {
		m.giveBack(kept.Flush(s.Class(), batch))
	}
	kept.Push(s.Class(), addr)
}

// giveBack makes objects free again in their spans: how many.
func (m *Machine) giveBack(addrs []int) int {
	for _, addr := range addrs {
		s := m.spanOf(addr / api.PageSize)
		object, _ := s.Index(addr - s.page*api.PageSize)
		s.Give(object)
	}
	return len(addrs)
}

// spanOf is the span that has a page; nil if none has.
func (m *Machine) spanOf(page int) *heldSpan {
	first, _, _ := m.space.Of(page)
	at, found := m.find(first)
	if !found {
		return nil
	}
	return m.spans[at]
}

// find is where among the spans that one stands that begins at a page, or would stand.
func (m *Machine) find(page int) (int, bool) {
	return slices.BinarySearchFunc(m.spans, page, func(s *heldSpan, page int) int {
		return cmp.Compare(s.page, page)
	})
}

// sizeOf is how many bytes an object of a class has.
func sizeOf(c int) int {
	size, _ := class.Size(c)
	return size
}
