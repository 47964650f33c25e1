package alloc

import (
	"messuage/api"
	"messuage/class"
	"messuage/policy"
)

// Read is n bytes of an object, from at on.
func (m *Machine) Read(cpu, addr, at, n int) ([]byte, api.Errno) {
	if e := m.reach(cpu, addr, at, n); e != api.OK {
		return nil, e
	}
	return m.memory.Read(addr+at, n)
}

// Write lays b into an object, from at on.
func (m *Machine) Write(cpu, addr, at int, b []byte) api.Errno {
	if e := m.reach(cpu, addr, at, len(b)); e != api.OK {
		return e
	}
	return m.memory.Write(addr+at, b)
}

// MBind gives all pages of a large object a policy. Those that stand on frames stay there.
func (m *Machine) MBind(addr int, p policy.Policy) api.Errno {
	size, e := m.Size(addr)
	if e != api.OK {
		return e
	}
	if !isLarge(size) {
		return api.ErrHeld
	}
	first, n := pagesOf(addr, size)
	return m.book.Set(first, n, p)
}

// Node is the node on which a byte of an object stands.
func (m *Machine) Node(addr, at int) (int, api.Errno) {
	size, e := m.Size(addr)
	if e != api.OK {
		return 0, e
	}
	if at < 0 || at >= size {
		return 0, api.ErrBound
	}
	frame, stands := m.memory.Frame((addr + at) / api.PageSize)
	if !stands {
		return 0, api.ErrMap
	}
	return m.memory.Store().Node(frame)
}

// Move puts a page of a large object on a frame of a node, with its bytes; told says that its Bind doesn't matter.
func (m *Machine) Move(page, node int, told bool) api.Errno {
	if e := m.checkNode(node); e != api.OK {
		return e
	}
	frame, stands := m.memory.Frame(page)
	if !stands {
		return api.ErrMap
	}
	if m.spanOf(page) != nil {
		return api.ErrHeld
	}
	if own, _ := m.memory.Store().Node(frame); own == node {
		return api.OK
	}
	if !told && !m.book.Ok(page, node) {
		return api.ErrDeny
	}
	to, e := m.heap.Take(node, 0)
	if e != api.OK {
		return e
	}
	m.memory.Move(page, to)
	m.heap.Give(frame, 0)
	return api.OK
}

// Pages are the pages of large objects that stand on frames, rising.
func (m *Machine) Pages() []int {
	var list []int
	for _, addr := range m.Live() {
		size := m.live[addr]
		if !isLarge(size) {
			continue
		}
		first, n := pagesOf(addr, size)
		for page := first; page < first+n; page++ {
			if _, stands := m.memory.Frame(page); stands {
				list = append(list, page)
			}
		}
	}
	return list
}

// reach tells whether a CPU may read or write n bytes of an object, from at on, and has all their pages stand on frames.
func (m *Machine) reach(cpu, addr, at, n int) api.Errno {
	if e := m.checkCPU(cpu); e != api.OK {
		return e
	}
	size, e := m.Size(addr)
	if e != api.OK {
		return e
	}
	// at and n aren't added up: their sum may be too great for an int.
	if at < 0 || n < 0 || n > size-at {
		return api.ErrBound
	}
	if n == 0 {
		return api.OK
	}
	last := (addr + at + n - 1) / api.PageSize
	for page := (addr + at) / api.PageSize; page <= last; page++ {
		if e := m.touch(cpu, page); e != api.OK {
			return e
		}
	}
	return api.OK
}

// touch has a page stand on a frame, of noughts if it stood on none.
func (m *Machine) touch(cpu, page int) api.Errno {
	if _, stands := m.memory.Frame(page); stands {
		return api.OK
	}
	p, has := m.book.Of(page)
	if !has {
		p = m.cpus[cpu].policy
	}
	var frame int
	found := m.twice(cpu, func() (got bool) {
		frame, _, got = m.acquire(cpu, 0, p)
		return got
	})
	if !found {
		return api.ErrNoMem
	}
	m.memory.Store().Clear(frame)
	return m.memory.Map(page, frame)
}

// freeLarge makes the frames and the pages of a large object that isn't live any more free, without a policy.
func (m *Machine) freeLarge(addr, size int) {
	first, n := pagesOf(addr, size)
	for page := first; page < first+n; page++ {
		if frame, e := m.memory.Unmap(page); e == api.OK {
			m.heap.Give(frame, 0)
		}
	}
	m.book.Clear(first, n)
	m.space.Give(first)
}

// pagesOf is the first page of a large object, and how many it has.
func pagesOf(addr, size int) (first, n int) {
	// Pages has a count for each size of an object.
	n, _ = class.Pages(size)
	return addr / api.PageSize, n
}
