package alloc_test

import (
	"bytes"
	"maps"
	"slices"
	"testing"

	"messuage/alloc"
	"messuage/api"
	"messuage/heap"
	"messuage/nodeset"
	"messuage/policy"
	"messuage/stats"
	"messuage/topo"
)

// The classes by their chapter.
var (
	sizes  = []int{8, 16, 32, 64}
	orders = []int{0, 0, 1, 2}
	counts = []int{8, 4, 4, 4}
)

// model is a machine by the words of the chapter: lists that are gone through from end to end, without the other
// layers (but policy.Check).
type model struct {
	t       topo.Topo
	least   int        // Min
	taken   []bool     // by frame
	run     [4096]bool // by page: is it taken?
	frames  map[int]int
	rules   map[int]policy.Policy
	objects map[int]*object
	spans   []*modelSpan // rising by page
	cpus    []modelCPU
	queues  [][]int
	events  []stats.Event
}

type object struct {
	size int
	data []byte
}

type modelSpan struct {
	page, frame, node, class int
	taken                    []bool
}

type modelCPU struct {
	policy policy.Policy
	cursor int
	cache  [4][]int
}

func newModel(t topo.Topo, marks heap.Marks) *model {
	m := &model{t: t, least: marks.Min, taken: make([]bool, t.Nodes*t.Frames), frames: map[int]int{}, rules: map[int]policy.Policy{}, objects: map[int]*object{}}
	m.run[0] = true
	m.cpus = make([]modelCPU, len(t.CPUs))
	m.queues = make([][]int, t.Nodes)
	return m
}

// free is how many frames of a node are free.
func (m *model) free(node int) int {
	n := 0
	for _, taken := range m.taken[node*m.t.Frames : (node+1)*m.t.Frames] {
		if !taken {
			n++
		}
	}
	return n
}

// whole tells whether a node has such a run, and all of it is free.
func (m *model) whole(node, at, order int) bool {
	if at+1<<order > m.t.Frames {
		return false
	}
	first := node*m.t.Frames + at
	return !slices.Contains(m.taken[first:first+1<<order], true)
}

// find is the run that a node's buddy would take.
func (m *model) find(node, order int) (int, bool) {
	for o := order; 1<<o <= m.t.Frames; o++ {
		for at := 0; at < m.t.Frames; at += 1 << o {
			if m.whole(node, at, o) && !m.whole(node, at&^(1<<o), o+1) {
				return node*m.t.Frames + at, true
			}
		}
	}
	return 0, false
}

func (m *model) may(node, order int) bool {
	_, found := m.find(node, order)
	return found && m.free(node)-1<<order >= m.least
}

func (m *model) fill(first, n int, taken bool) {
	for i := first; i < first+n; i++ {
		m.taken[i] = taken
	}
}

func (m *model) permits(p policy.Policy, node int) bool {
	return p.Mode != policy.Bind || p.Set>>node&1 == 1
}

// nearest is the node nearest to from, of those that fit.
func (m *model) nearest(from int, fits func(node int) bool) (int, bool) {
	best, found := 0, false
	for node := range m.t.Nodes {
		if fits(node) && (!found || m.t.Dist[from][node] < m.t.Dist[from][best]) {
			best, found = node, true
		}
	}
	return best, found
}

// acquire is the first frame of a run of frames, and its node.
func (m *model) acquire(cpu, order int, p policy.Policy) (int, int, bool) {
	own := m.t.CPUs[cpu]
	start := own
	switch p.Mode {
	case policy.Preferred:
		start = p.Node
	case policy.Interleave:
		start = m.cpus[cpu].cursor
		for next := true; next; next = p.Set>>start&1 == 0 {
			start = (start + 1) % 8
		}
		m.cpus[cpu].cursor = start
	}
	node, found := m.nearest(start, func(node int) bool { return m.permits(p, node) && m.may(node, order) })
	if !found {
		return 0, 0, false
	}
	frame, _ := m.find(node, order)
	m.fill(frame, 1<<order, true)
	m.events = append(m.events, stats.Event{Node: node, Start: start, Own: own, Interleave: p.Mode == policy.Interleave})
	return frame, node, true
}

// takePages is the first of the lowest n free pages side by side.
func (m *model) takePages(n int) (int, bool) {
	for first := 1; first+n <= 4096; first++ {
		if !slices.Contains(m.run[first:first+n], true) {
			m.fillPages(first, n, true)
			return first, true
		}
	}
	return 0, false
}

func (m *model) fillPages(first, n int, taken bool) {
	for page := first; page < first+n; page++ {
		m.run[page] = taken
	}
}

func (m *model) spanOf(addr int) *modelSpan {
	for _, s := range m.spans {
		if addr >= s.page*64 && addr < (s.page+1<<orders[s.class])*64 {
			return s
		}
	}
	return nil
}

// roomy is a span of a class that isn't full, for a CPU.
func (m *model) roomy(cpu, c int) *modelSpan {
	p := m.cpus[cpu].policy
	roomyOn := func(node int) *modelSpan {
		for _, s := range m.spans {
			if s.node == node && s.class == c && slices.Contains(s.taken, false) {
				return s
			}
		}
		return nil
	}
	node, found := m.nearest(m.t.CPUs[cpu], func(node int) bool { return m.permits(p, node) && roomyOn(node) != nil })
	if found {
		return roomyOn(node)
	}
	page, found := m.takePages(1 << orders[c])
	if !found {
		return nil
	}
	frame, node, found := m.acquire(cpu, orders[c], p)
	if !found {
		m.fillPages(page, 1<<orders[c], false)
		return nil
	}
	s := &modelSpan{page: page, frame: frame, node: node, class: c, taken: make([]bool, counts[c])}
	for i := range 1 << orders[c] {
		m.frames[page+i] = frame + i
	}
	m.spans = append(m.spans, s)
	slices.SortFunc(m.spans, func(a, b *modelSpan) int { return a.page - b.page })
	return s
}

func (m *model) giveBack(addr int) {
	s := m.spanOf(addr)
	s.taken[(addr-s.page*64)/sizes[s.class]] = false
}

func (m *model) malloc(cpu, n int) (int, api.Errno) {
	if cpu < 0 || cpu >= len(m.cpus) {
		return 0, api.ErrCPU
	}
	if n < 1 || n > 1024 {
		return 0, api.ErrSize
	}
	if n > 64 {
		page, found := m.takePages((n + 63) / 64)
		if !found {
			return 0, api.ErrNoMem
		}
		m.objects[page*64] = &object{n, make([]byte, n)}
		return page * 64, api.OK
	}
	c := 0
	for sizes[c] < n {
		c++
	}
	cached := &m.cpus[cpu].cache[c]
	if len(*cached) == 0 {
		s := m.roomy(cpu, c)
		if s == nil {
			m.flush(cpu)
			m.release()
			s = m.roomy(cpu, c)
		}
		if s == nil {
			return 0, api.ErrNoMem
		}
		// What is taken first is popped last, but the first one of all is the object.
		var addrs []int
		for i := range s.taken {
			if !s.taken[i] && len(addrs) < 4 {
				s.taken[i] = true
				addrs = append(addrs, s.page*64+i*sizes[c])
			}
		}
		*cached = append(addrs[1:], addrs[0])
	}
	addr := (*cached)[len(*cached)-1]
	*cached = (*cached)[:len(*cached)-1]
	m.objects[addr] = &object{n, make([]byte, n)}
	return addr, api.OK
}

func (m *model) give(cpu, addr int) api.Errno {
	if cpu < 0 || cpu >= len(m.cpus) {
		return api.ErrCPU
	}
	x := m.objects[addr]
	if x == nil {
		return api.ErrBad
	}
	delete(m.objects, addr)
	if x.size > 64 {
		n := (x.size + 63) / 64
		for page := addr / 64; page < addr/64+n; page++ {
			if frame, stands := m.frames[page]; stands {
				m.fill(frame, 1, false)
			}
			delete(m.frames, page)
			delete(m.rules, page)
		}
		m.fillPages(addr/64, n, false)
		return api.OK
	}
	s := m.spanOf(addr)
	if s.node != m.t.CPUs[cpu] {
		if len(m.queues[s.node]) == 16 {
			m.giveBack(addr)
		} else {
			m.queues[s.node] = append(m.queues[s.node], addr)
		}
		return api.OK
	}
	cached := &m.cpus[cpu].cache[s.class]
	if len(*cached) == 8 {
		for _, first := range (*cached)[:4] {
			m.giveBack(first)
		}
		*cached = slices.Clone((*cached)[4:])
	}
	*cached = append(*cached, addr)
	return api.OK
}

// reach is what Read and Write tell, and gives pages their frames.
func (m *model) reach(cpu, addr, at, n int) api.Errno {
	if cpu < 0 || cpu >= len(m.cpus) {
		return api.ErrCPU
	}
	x := m.objects[addr]
	if x == nil {
		return api.ErrBad
	}
	if at < 0 || n < 0 || at > x.size || n > x.size-at {
		return api.ErrBound
	}
	for page := addr / 64; page*64 < addr+at+n; page++ {
		_, stands := m.frames[page]
		if stands || n == 0 || (page+1)*64 <= addr+at {
			continue
		}
		p, has := m.rules[page]
		if !has {
			p = m.cpus[cpu].policy
		}
		frame, _, found := m.acquire(cpu, 0, p)
		if !found {
			m.flush(cpu)
			m.release()
			frame, _, found = m.acquire(cpu, 0, p)
		}
		if !found {
			return api.ErrNoMem
		}
		m.frames[page] = frame
	}
	return api.OK
}

func (m *model) read(cpu, addr, at, n int) ([]byte, api.Errno) {
	if e := m.reach(cpu, addr, at, n); e != api.OK {
		return nil, e
	}
	return m.objects[addr].data[at : at+n], api.OK
}

func (m *model) write(cpu, addr, at int, b []byte) api.Errno {
	if e := m.reach(cpu, addr, at, len(b)); e != api.OK {
		return e
	}
	copy(m.objects[addr].data[at:], b)
	return api.OK
}

func (m *model) setPolicy(cpu int, p policy.Policy) api.Errno {
	if cpu < 0 || cpu >= len(m.cpus) {
		return api.ErrCPU
	}
	if e := policy.Check(p, m.t.Nodes); e != api.OK {
		return e
	}
	m.cpus[cpu].policy = p
	return api.OK
}

func (m *model) mbind(addr int, p policy.Policy) api.Errno {
	x := m.objects[addr]
	if x == nil {
		return api.ErrBad
	}
	if x.size <= 64 {
		return api.ErrHeld
	}
	if e := policy.Check(p, m.t.Nodes); e != api.OK {
		return e
	}
	for i := range (x.size + 63) / 64 {
		m.rules[addr/64+i] = p
	}
	return api.OK
}

func (m *model) node(addr, at int) (int, api.Errno) {
	x := m.objects[addr]
	if x == nil {
		return 0, api.ErrBad
	}
	if at < 0 || at >= x.size {
		return 0, api.ErrBound
	}
	frame, stands := m.frames[(addr+at)/64]
	if !stands {
		return 0, api.ErrMap
	}
	return frame / m.t.Frames, api.OK
}

func (m *model) drain(node int) (int, api.Errno) {
	if node < 0 || node >= m.t.Nodes {
		return 0, api.ErrNode
	}
	n := len(m.queues[node])
	for _, addr := range m.queues[node] {
		m.giveBack(addr)
	}
	m.queues[node] = nil
	return n, api.OK
}

func (m *model) flush(cpu int) (int, api.Errno) {
	if cpu < 0 || cpu >= len(m.cpus) {
		return 0, api.ErrCPU
	}
	n := 0
	for c, cached := range m.cpus[cpu].cache {
		for _, addr := range cached {
			m.giveBack(addr)
		}
		n += len(cached)
		m.cpus[cpu].cache[c] = nil
	}
	return n, api.OK
}

func (m *model) release() int {
	n := 0
	var kept []*modelSpan
	for _, s := range m.spans {
		if slices.Contains(s.taken, true) {
			kept = append(kept, s)
			continue
		}
		n++
		for i := range 1 << orders[s.class] {
			delete(m.frames, s.page+i)
		}
		m.fill(s.frame, 1<<orders[s.class], false)
		m.fillPages(s.page, 1<<orders[s.class], false)
	}
	m.spans = kept
	return n
}

func (m *model) move(page, node int, told bool) api.Errno {
	if node < 0 || node >= m.t.Nodes {
		return api.ErrNode
	}
	frame, stands := m.frames[page]
	if !stands {
		return api.ErrMap
	}
	if m.spanOf(page*64) != nil {
		return api.ErrHeld
	}
	if frame/m.t.Frames == node {
		return api.OK
	}
	if !told && !m.permits(m.rules[page], node) {
		return api.ErrDeny
	}
	if !m.may(node, 0) {
		return api.ErrNoMem
	}
	to, _ := m.find(node, 0)
	m.fill(to, 1, true)
	m.fill(frame, 1, false)
	m.frames[page] = to
	return api.OK
}

func (m *model) live() []int {
	return slices.Sorted(maps.Keys(m.objects))
}

// pages are the pages of large objects that stand on frames.
func (m *model) pages() []int {
	var list []int
	for page := range m.frames {
		if m.spanOf(page*64) == nil {
			list = append(list, page)
		}
	}
	slices.Sort(list)
	return list
}

func (m *model) spanList() []alloc.Span {
	var list []alloc.Span
	for _, s := range m.spans {
		used := 0
		for _, taken := range s.taken {
			if taken {
				used++
			}
		}
		list = append(list, alloc.Span{Page: s.page, Node: s.node, Class: s.class, Used: used})
	}
	return list
}

// stands tells whether a machine is as the model, by all that asks and changes nothing.
func (m *model) stands(t *testing.T, x *alloc.Machine) {
	t.Helper()
	same(t, "Live", x.Live(), m.live())
	same(t, "Spans", x.Spans(), m.spanList())
	same(t, "Pages", x.Pages(), m.pages())
	same(t, "Events", x.Log().Events(), m.events)
	for node := range m.t.Nodes {
		if n, e := x.Heap().Free(node); n != m.free(node) || e != api.OK {
			t.Errorf("Free(%d) = %d, %d, not %d", node, n, e, m.free(node))
		}
	}
	if n := x.Memory().Mapped(); n != len(m.frames) {
		t.Errorf("Mapped() = %d, not %d", n, len(m.frames))
	}
	for page, want := range m.frames {
		if frame, ok := x.Memory().Frame(page); frame != want || !ok {
			t.Errorf("Frame(%d) = %d, %v, not %d", page, frame, ok, want)
		}
	}
	for page := range 4096 {
		p, has := x.Book().Of(page)
		if want, wanted := m.rules[page]; p != want || has != wanted {
			t.Errorf("Of(%d) = %v, %v, not %v, %v", page, p, has, want, wanted)
		}
	}
	for addr, o := range m.objects {
		m.holds(t, x, addr, o)
	}
	sound(t, x)
}

// holds tells whether an object is as the model's, in all bytes that stand on frames.
func (m *model) holds(t *testing.T, x *alloc.Machine, addr int, o *object) {
	t.Helper()
	if n, e := x.Size(addr); n != o.size || e != api.OK {
		t.Errorf("Size(%d) = %d, %d, not %d", addr, n, e, o.size)
	}
	room := (o.size + 63) / 64 * 64
	if o.size <= 64 {
		room = sizes[m.spanOf(addr).class]
	}
	// Behind its end an object has noughts: nobody could write there.
	want := append(slices.Clone(o.data), make([]byte, room-o.size)...)
	for at := 0; at < room; at += 64 {
		wantNode, wantErr := m.node(addr, at)
		if node, e := x.Node(addr, at); node != wantNode || e != wantErr {
			t.Errorf("Node(%d, %d) = %d, %d, not %d, %d", addr, at, node, e, wantNode, wantErr)
		}
		if wantErr != api.OK {
			continue
		}
		n := min(64, room-at)
		if b, e := x.Memory().Read(addr+at, n); !bytes.Equal(b, want[at:at+n]) || e != api.OK {
			t.Errorf("at %d stands %v, %d, not %v", addr+at, b, e, want[at:at+n])
		}
	}
}

// sound tells whether of each node free frames, those of spans and those of pages of large objects are all, and no two live objects share a byte.
func sound(t *testing.T, x *alloc.Machine) {
	t.Helper()
	shape := x.Topo()
	sum := make([]int, shape.Nodes)
	for node := range sum {
		sum[node], _ = x.Heap().Free(node)
	}
	for _, s := range x.Spans() {
		sum[s.Node] += 1 << orders[s.Class]
	}
	for _, page := range x.Pages() {
		frame, _ := x.Memory().Frame(page)
		sum[frame/shape.Frames]++
	}
	for node, n := range sum {
		if n != shape.Frames {
			t.Errorf("node %d: %d frames, not %d", node, n, shape.Frames)
		}
	}
	end := 64
	for _, addr := range x.Live() {
		if addr < end {
			t.Errorf("the object at %d begins ahead of %d", addr, end)
		}
		n, _ := x.Size(addr)
		end = addr + n
	}
	if end > 4096*64 {
		t.Errorf("the last object ends at %d", end)
	}
}

func same[T comparable](t *testing.T, what string, got, want []T) {
	t.Helper()
	if !slices.Equal(got, want) {
		t.Errorf("%s: %v, not %v", what, got, want)
	}
}

// stepper does steps on a machine and on its model.
type stepper struct {
	t    *testing.T
	x    *alloc.Machine
	m    *model
	seed uint32
}

func (s *stepper) next(n int) int {
	s.seed = s.seed*1664525 + 1013904223
	return int(s.seed>>8) % n
}

func (s *stepper) cpu() int {
	if s.next(40) == 0 {
		return []int{-1, len(s.m.cpus)}[s.next(2)]
	}
	return s.next(len(s.m.cpus))
}

func (s *stepper) anyNode() int {
	if s.next(40) == 0 {
		return []int{-1, s.m.t.Nodes}[s.next(2)]
	}
	return s.next(s.m.t.Nodes)
}

// size is one of an object, most often a small one, sometimes none.
func (s *stepper) size() int {
	switch s.next(40) {
	case 0:
		return []int{0, -1, 1025}[s.next(3)]
	case 1, 2, 3, 4, 5, 6, 7:
		return 65 + s.next(960)
	case 8, 9, 10, 11, 12, 13:
		return 65 + s.next(128)
	}
	return 1 + s.next(64)
}

// addr is that of a live object, most often, or one nearby.
func (s *stepper) addr() int {
	live := s.m.live()
	if len(live) == 0 || s.next(30) == 0 {
		return s.next(4096 * 64)
	}
	if s.next(30) == 0 {
		return live[s.next(len(live))] + s.next(3) - 1
	}
	return live[s.next(len(live))]
}

// stretch is a place within an object, and a count, seldom beyond its end.
func (s *stepper) stretch(addr int) (int, int) {
	size := 8
	if o := s.m.objects[addr]; o != nil {
		size = o.size
	}
	if s.next(20) == 0 {
		return s.next(size+3) - 1, s.next(size+3) - 1
	}
	at := s.next(size + 1)
	return at, s.next(size - at + 1)
}

func (s *stepper) policy() policy.Policy {
	if s.next(20) == 0 {
		return []policy.Policy{{Mode: 4}, {Mode: policy.Bind}, {Mode: policy.Preferred, Node: s.m.t.Nodes}, {Mode: policy.Preferred, Node: -1}}[s.next(4)]
	}
	set := 1 + s.next(1<<s.m.t.Nodes-1)
	return policy.Policy{Mode: s.next(4), Set: nodeset.Set(set), Node: s.next(s.m.t.Nodes)}
}

// step is any call, on both.
func (s *stepper) step() {
	s.t.Helper()
	switch what := s.next(100); {
	case what < 34:
		cpu, n := s.cpu(), s.size()
		got, e := s.x.Malloc(cpu, n)
		want, wantErr := s.m.malloc(cpu, n)
		s.same("Malloc", []int{cpu, n}, got, want, e, wantErr)
	case what < 56:
		cpu, addr := s.cpu(), s.addr()
		s.same("Free", []int{cpu, addr}, 0, 0, s.x.Free(cpu, addr), s.m.give(cpu, addr))
	case what < 64:
		s.readStep()
	case what < 76:
		s.writeStep()
	case what < 80:
		cpu, p := s.cpu(), s.policy()
		s.same("SetPolicy", []int{cpu}, 0, 0, s.x.SetPolicy(cpu, p), s.m.setPolicy(cpu, p))
	case what < 85:
		addr, p := s.addr(), s.policy()
		s.same("MBind", []int{addr}, 0, 0, s.x.MBind(addr, p), s.m.mbind(addr, p))
	case what < 87:
		addr := s.addr()
		at, _ := s.stretch(addr)
		got, e := s.x.Node(addr, at)
		want, wantErr := s.m.node(addr, at)
		s.same("Node", []int{addr, at}, got, want, e, wantErr)
	case what < 89:
		node := s.anyNode()
		got, e := s.x.Drain(node)
		want, wantErr := s.m.drain(node)
		s.same("Drain", []int{node}, got, want, e, wantErr)
	case what < 91:
		cpu := s.cpu()
		got, e := s.x.Flush(cpu)
		want, wantErr := s.m.flush(cpu)
		s.same("Flush", []int{cpu}, got, want, e, wantErr)
	case what < 92:
		s.same("Release", nil, s.x.Release(), s.m.release(), 0, 0)
	default:
		page, node, told := s.addr()/64, s.anyNode(), s.next(2) == 0
		page += s.next(3)
		s.same("Move", []int{page, node}, 0, 0, s.x.Move(page, node, told), s.m.move(page, node, told))
	}
}

func (s *stepper) readStep() {
	s.t.Helper()
	cpu, addr := s.cpu(), s.addr()
	at, n := s.stretch(addr)
	got, e := s.x.Read(cpu, addr, at, n)
	want, wantErr := s.m.read(cpu, addr, at, n)
	s.same("Read", []int{cpu, addr, at, n}, 0, 0, e, wantErr)
	same(s.t, "bytes", got, want)
}

func (s *stepper) writeStep() {
	s.t.Helper()
	cpu, addr := s.cpu(), s.addr()
	at, n := s.stretch(addr)
	b := make([]byte, max(n, 0))
	for i := range b {
		b[i] = byte(s.next(256))
	}
	s.same("Write", []int{cpu, addr, at, n}, 0, 0, s.x.Write(cpu, addr, at, b), s.m.write(cpu, addr, at, b))
}

func (s *stepper) same(what string, arguments []int, got, want int, e, wantErr api.Errno) {
	s.t.Helper()
	if got != want || e != wantErr {
		s.t.Errorf("%s%v = %d, %d, not %d, %d", what, arguments, got, e, want, wantErr)
	}
}

// finish frees all, on both, and looks whether each heap is whole then.
func (s *stepper) finish() {
	s.t.Helper()
	for _, addr := range s.m.live() {
		cpu := s.next(len(s.m.cpus))
		s.same("Free", []int{cpu, addr}, 0, 0, s.x.Free(cpu, addr), s.m.give(cpu, addr))
	}
	s.m.stands(s.t, s.x)
	empty(s.t, s.x)
}

// empty drains, flushes and releases all of a machine without an object, and looks whether its heap is whole then.
func empty(t *testing.T, x *alloc.Machine) {
	t.Helper()
	shape := x.Topo()
	for node := range shape.Nodes {
		x.Drain(node)
	}
	for cpu := range shape.CPUs {
		x.Flush(cpu)
	}
	for _, s := range x.Spans() {
		if s.Used != 0 {
			t.Errorf("of the span %v an object is taken", s)
		}
	}
	n := len(x.Spans())
	if got := x.Release(); got != n || len(x.Spans()) != 0 {
		t.Errorf("Release() = %d, not %d", got, n)
	}
	if !x.Heap().Whole() || x.Memory().Mapped() != 0 || len(x.Pages()) != 0 {
		t.Errorf("not whole: %d pages stand on frames", x.Memory().Mapped())
	}
	for node := range shape.Nodes {
		if n, e := x.Heap().Free(node); n != shape.Frames || e != api.OK {
			t.Errorf("Free(%d) = %d, %d", node, n, e)
		}
	}
}

// P19.1 to P19.6, P2 to P6: many steps of all kinds, right ones and wrong ones, against the model, on machines that
// run full and on such as don't.
func TestManySteps(t *testing.T) {
	for i, c := range []struct {
		shape topo.Topo
		marks heap.Marks
		steps int
	}{
		{line(1, 1, 0), heap.Marks{}, 300},
		{line(1, 4, 0, 0), heap.Marks{}, 600},
		{line(1, 8, 0), heap.Marks{Min: 2, Low: 3, High: 8}, 600},
		{line(2, 16, 0, 1), heap.Marks{Min: 1, Low: 2, High: 4}, 1500},
		{line(2, 16, 0, 0, 1, 1), heap.Marks{Min: 1, Low: 4, High: 6}, 1500},
		{line(2, 32, 1), heap.Marks{}, 1000},
		{ring(4, 16, 0, 1, 2, 3, 3, 1), heap.Marks{Min: 3, Low: 3, High: 3}, 1500},
		{ring(5, 64, 4, 0, 2), heap.Marks{Min: 5, Low: 10, High: 20}, 1500},
		{line(8, 8, 7, 6, 5, 4, 3, 2, 1, 0, 0, 1, 2, 3, 4, 5, 6, 7), heap.Marks{Min: 1, Low: 1, High: 1}, 1500},
		{line(3, 1024, 0, 2), heap.Marks{}, 400},
	} {
		s := &stepper{t: t, x: made(t, c.shape, c.marks), m: newModel(c.shape, c.marks), seed: uint32(i)}
		for step := range c.steps {
			s.step()
			s.m.stands(t, s.x)
			if t.Failed() {
				t.Fatalf("machine %d, step %d", i, step)
			}
		}
		s.finish()
	}
}
