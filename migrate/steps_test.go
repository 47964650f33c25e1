package migrate_test

import (
	"bytes"
	"fmt"
	"maps"
	"slices"
	"testing"

	"messuage/alloc"
	"messuage/api"
	"messuage/audit"
	"messuage/heap"
	"messuage/migrate"
	"messuage/nodeset"
	"messuage/policy"
	"messuage/topo"
)

// model tells by the words of the chapters which pages move, from what a machine was like ahead.
type model struct {
	shape topo.Topo
	marks heap.Marks
	node  map[int]int // by page that stands on a frame
	held  map[int]bool
	rules map[int]policy.Policy
	free  []int
}

func modelOf(m *alloc.Machine) *model {
	s, p := look(m)
	x := &model{shape: m.Topo(), marks: m.Heap().Marks(), node: map[int]int{}, held: map[int]bool{}, rules: s.rules, free: p.free}
	for page, frame := range p.frames {
		x.node[page] = frame / x.shape.Frames
		x.held[page] = !slices.Contains(s.pages, page)
	}
	return x
}

func (x *model) move(page, node int, told bool) api.Errno {
	from, stands := x.node[page]
	rule := x.rules[page]
	switch {
	case !stands:
		return api.ErrMap
	case x.held[page]:
		return api.ErrHeld
	case from == node:
		return api.OK
	case !told && rule.Mode == policy.Bind && rule.Set>>node&1 == 0:
		return api.ErrDeny
	case x.free[node]-1 < x.marks.Min:
		return api.ErrNoMem
	}
	x.free[from]++
	x.free[node]--
	x.node[page] = node
	return api.OK
}

// where is the node of a page, or -1.
func (x *model) where(page int) int {
	node, stands := x.node[page]
	if !stands {
		return -1
	}
	return node
}

// object is what Object tells of an object.
func (x *model) object(addr, size, node int, told bool) []migrate.Status {
	var list []migrate.Status
	for page := addr / 64; page <= (addr+size-1)/64; page++ {
		from := x.where(page)
		e := x.move(page, node, told)
		list = append(list, migrate.Status{Page: page, From: from, To: x.where(page), Err: e})
	}
	return list
}

// tick is what Tick tells.
func (x *model) tick(most int) []migrate.Status {
	var list []migrate.Status
	for node := range x.shape.Nodes {
		for _, page := range slices.Sorted(maps.Keys(x.node)) {
			if x.held[page] || x.node[page] != node || x.free[node] >= x.marks.Low || len(list) >= most {
				continue
			}
			if to, found := x.richNode(page, node); found {
				x.move(page, to, false)
				list = append(list, migrate.Status{Page: page, From: node, To: to})
			}
		}
	}
	return list
}

// richNode is the nearest node to a page's one that is rich and which its Bind has.
func (x *model) richNode(page, from int) (int, bool) {
	best, found := 0, false
	rule := x.rules[page]
	for node := range x.shape.Nodes {
		may := rule.Mode != policy.Bind || rule.Set>>node&1 == 1
		if may && x.free[node] > x.marks.High && (!found || x.shape.Dist[from][node] < x.shape.Dist[from][best]) {
			best, found = node, true
		}
	}
	return best, found
}

// stepper does steps on a machine, of which some move pages.
type stepper struct {
	t       *testing.T
	m       *alloc.Machine
	data    map[int][]byte // by address of a live object
	strays  []int
	seed    uint32
	moved   int
	refused map[api.Errno]int
}

func (s *stepper) next(n int) int {
	s.seed = s.seed*1664525 + 1013904223
	return int(s.seed>>8) % n
}

// addr is that of a live object; 0 if there is none.
func (s *stepper) addr() int {
	live := s.m.Live()
	if len(live) == 0 {
		return 0
	}
	return live[s.next(len(live))]
}

func (s *stepper) cpu() int {
	return s.next(len(s.m.Topo().CPUs))
}

func (s *stepper) policy() policy.Policy {
	nodes := s.m.Topo().Nodes
	mode := []int{policy.Bind, policy.Bind, policy.Bind, policy.Default, policy.Interleave, policy.Preferred}[s.next(6)]
	return policy.Policy{Mode: mode, Set: nodeset.Set(1 + s.next(1<<nodes-1)), Node: s.next(nodes)}
}

// step is any call; it tells whether it was one that may make pages stray.
func (s *stepper) step() bool {
	cpu, addr := s.cpu(), s.addr()
	switch what := s.next(20); {
	case what < 3:
		n := 1 + s.next(64)
		if what < 2 {
			n += s.next(500)
		}
		if addr, e := s.m.Malloc(cpu, n); e == api.OK {
			s.data[addr] = make([]byte, n)
		}
	case what < 6:
		if s.m.Free(cpu, addr) == api.OK {
			delete(s.data, addr)
		}
	case what < 11:
		s.write(cpu, addr)
	case what == 11:
		s.m.SetPolicy(cpu, s.policy())
	case what < 14:
		s.m.MBind(addr, s.policy())
		return true
	case what == 14:
		s.m.Drain(s.next(s.m.Topo().Nodes))
		s.m.Flush(cpu)
		s.m.Release()
	case what < 17:
		s.tick()
	default:
		return s.object(addr)
	}
	return false
}

func (s *stepper) write(cpu, addr int) {
	size := len(s.data[addr])
	if size == 0 {
		return
	}
	at, n := 0, size
	if s.next(2) == 0 {
		at = s.next(size)
		n = 1 + s.next(size-at)
	}
	b := make([]byte, n)
	for i := range b {
		b[i] = byte(s.next(256))
	}
	if s.m.Write(cpu, addr, at, b) == api.OK {
		copy(s.data[addr][at:], b)
	}
}

func (s *stepper) tick() {
	most := s.next(5) - 1
	if s.next(3) == 0 {
		most = 4096
	}
	x := modelOf(s.m)
	want := x.tick(most)
	keeps(s.t, s.m, "Tick", func() { ticks(s.t, s.m, most, want...) })
	s.stand(x)
	s.moved += len(want)
}

func (s *stepper) object(addr int) bool {
	size, e := s.m.Size(addr)
	node, told := s.next(s.m.Topo().Nodes), s.next(4) == 0
	if e != api.OK {
		refusesObject(s.t, s.m, addr, node, api.ErrBad)
		return false
	}
	x := modelOf(s.m)
	want := x.object(addr, size, node, told)
	keeps(s.t, s.m, "Object", func() { moves(s.t, s.m, addr, node, told, want...) })
	s.stand(x)
	for _, status := range want {
		s.refused[status.Err]++
	}
	return told
}

// stand looks whether the pages stand as the model says, and Query tells the same.
func (s *stepper) stand(x *model) {
	s.t.Helper()
	if y := modelOf(s.m); fmt.Sprint(y) != fmt.Sprint(x) {
		s.t.Errorf("%v, not %v", y, x)
	}
	for addr, b := range s.data {
		var want []migrate.Status
		for page := addr / 64; page <= (addr+len(b)-1)/64; page++ {
			node, e := x.where(page), api.OK
			if node < 0 {
				e = api.ErrMap
			}
			want = append(want, migrate.Status{Page: page, From: node, To: node, Err: e})
		}
		queries(s.t, s.m, addr, want...)
	}
}

// holds looks whether the machine is sound, the objects have the bytes that were written, where they stand on frames,
// and no page is a stray that wasn't one ahead, if none may be.
func (s *stepper) holds(mayStray bool) {
	s.t.Helper()
	if !audit.Sound(s.m) {
		s.t.Errorf("not sound: %v", audit.Nodes(s.m))
	}
	if live := slices.Sorted(maps.Keys(s.data)); !slices.Equal(s.m.Live(), live) {
		s.t.Errorf("live: %v, not %v", s.m.Live(), live)
	}
	for addr, want := range s.data {
		for at := 0; at < len(want); at += 64 {
			part := want[at:min(at+64, len(want))]
			b, e := s.m.Memory().Read(addr+at, len(part))
			if e == api.OK && !bytes.Equal(b, part) {
				s.t.Errorf("at %d stands %v, not %v", addr+at, b, part)
			}
		}
	}
	strays := audit.Strays(s.m)
	for _, page := range strays {
		if !mayStray && !slices.Contains(s.strays, page) {
			s.t.Errorf("page %d is a stray now", page)
		}
	}
	s.strays = strays
}

// finish frees all, and looks whether the machine is idle then.
func (s *stepper) finish() {
	for addr := range s.data {
		tells(s.t, "Free", s.m.Free(s.cpu(), addr), api.OK, addr)
	}
	for node := range s.m.Topo().Nodes {
		s.m.Drain(node)
	}
	for cpu := range s.m.Topo().CPUs {
		s.m.Flush(cpu)
	}
	s.m.Release()
	if !audit.Idle(s.m) || !audit.Sound(s.m) {
		s.t.Errorf("not idle: %v", audit.Nodes(s.m))
	}
}

// P20.1 to P20.3, P4 to P6, P21.2: many steps of all kinds: which pages move, and where to, is as the words say; bytes
// and objects stay; all is free in the end.
func TestManySteps(t *testing.T) {
	moved, refused := 0, map[api.Errno]int{}
	for i, c := range []struct {
		shape topo.Topo
		marks heap.Marks
	}{
		{line(1, 16, 0), heap.Marks{Min: 1, Low: 8, High: 8}},
		{line(2, 16, 0, 1), heap.Marks{Min: 1, Low: 6, High: 8}},
		{line(2, 8, 1), heap.Marks{Low: 4, High: 4}},
		{line(3, 32, 0, 1, 2, 0), heap.Marks{Min: 3, Low: 20, High: 20}},
		{star(4, 16, 0, 1, 2), heap.Marks{Min: 2, Low: 8, High: 10}},
		{star(5, 16, 4, 4), heap.Marks{Min: 5, Low: 16, High: 16}},
		{line(8, 8, 7, 6, 5, 4, 3, 2, 1, 0), heap.Marks{Min: 1, Low: 4, High: 5}},
		{star(8, 64, 3, 0), heap.Marks{Min: 8, Low: 50, High: 60}},
	} {
		s := &stepper{t: t, m: made(t, c.shape, c.marks), data: map[int][]byte{}, seed: uint32(i), refused: refused}
		for step := range 800 {
			s.holds(s.step())
			if t.Failed() {
				t.Fatalf("machine %d, step %d", i, step)
			}
		}
		s.finish()
		moved += s.moved
	}
	// Steps that never come to one of these would tell little.
	for _, e := range []api.Errno{api.OK, api.ErrMap, api.ErrHeld, api.ErrDeny, api.ErrNoMem} {
		if refused[e] < 50 {
			t.Errorf("only %d pages were told %d", refused[e], e)
		}
	}
	if moved < 100 {
		t.Errorf("only %d pages moved by Ticks", moved)
	}
}
