package script_test

import (
	"bytes"
	"fmt"
	"slices"
	"testing"

	"messuage/alloc"
	"messuage/api"
	"messuage/audit"
	"messuage/heap"
	"messuage/migrate"
	"messuage/nodeset"
	"messuage/policy"
	"messuage/script"
	"messuage/topo"
)

// dice makes steps, most of them such as are done, some that aren't.
type dice struct {
	seed       uint32
	nodes, cpu int // how many there are
	given      int // how many objects were
}

func (d *dice) next(n int) int {
	d.seed = d.seed*1664525 + 1013904223
	return int(d.seed>>8) % n
}

func (d *dice) policy() policy.Policy {
	p := policy.Policy{Mode: d.next(4), Set: nodeset.Set(1 + d.next(1<<d.nodes-1)), Node: d.next(d.nodes)}
	if d.next(20) == 0 {
		p = policy.Policy{Mode: d.next(6) - 1, Set: nodeset.Set(d.next(256)), Node: d.next(10) - 1}
	}
	return p
}

// step has an object that was given lately, most of the time.
func (d *dice) step() script.Step {
	x := script.Step{
		Kind: kinds[d.next(len(kinds))], CPU: d.next(d.cpu), Obj: d.given - 1 - d.next(12), At: d.next(80), N: d.next(40),
		Bytes: bytes.Repeat([]byte{byte(1 + d.next(255))}, d.next(90)), Policy: d.policy(), Told: d.next(2) == 0,
	}
	switch x.Kind {
	case script.Malloc:
		x.N = 1 + d.next(64)
		if d.next(2) == 0 {
			x.N = 65 + d.next(400)
		}
	case script.Migrate, script.Drain:
		x.N = d.next(d.nodes)
	case script.Read, script.Write:
		x.At = d.next(1 + d.next(300))
	case script.Release, script.Flush:
		// Rare, so that caches and spans have something.
		if d.next(4) != 0 {
			x.Kind = script.Write
		}
	}
	if d.next(30) == 0 {
		wild := []*int{&x.Kind, &x.CPU, &x.Obj, &x.At, &x.N}
		*wild[d.next(len(wild))] = append(slices.Clone(odd), 0, 1, 2)[d.next(len(odd)+3)]
	}
	return x
}

// twin does by the words of the chapter what a system does, on a machine of its own.
type twin struct {
	m     *alloc.Machine
	addrs []int
	gone  map[int]bool // by name
}

func (w *twin) do(x script.Step) script.Result {
	if !slices.Contains(kinds, x.Kind) {
		return script.Result{Err: api.ErrArg}
	}
	addr := 0
	if slices.Contains(ofObjects, x.Kind) {
		if x.Obj < 0 || x.Obj >= len(w.addrs) {
			return script.Result{Err: api.ErrMiss}
		}
		addr = w.addrs[x.Obj]
		if w.gone[x.Obj] {
			addr = 0
		}
	}
	r := w.call(x, addr)
	if r.Err != api.OK {
		return script.Result{Err: r.Err}
	}
	switch x.Kind {
	case script.Malloc:
		w.addrs = append(w.addrs, r.N)
		r.N = len(w.addrs) - 1
	case script.Free:
		w.gone[x.Obj] = true
	}
	return r
}

// call is what the machine's call of a step answers.
func (w *twin) call(x script.Step, addr int) (r script.Result) {
	switch x.Kind {
	case script.Malloc:
		r.N, r.Err = w.m.Malloc(x.CPU, x.N)
	case script.Free:
		r.Err = w.m.Free(x.CPU, addr)
	case script.Read:
		r.Bytes, r.Err = w.m.Read(x.CPU, addr, x.At, x.N)
	case script.Write:
		r.Err = w.m.Write(x.CPU, addr, x.At, x.Bytes)
	case script.Policy:
		r.Err = w.m.SetPolicy(x.CPU, x.Policy)
	case script.MBind:
		r.Err = w.m.MBind(addr, x.Policy)
	case script.Migrate:
		list, e := migrate.Object(w.m, addr, x.N, x.Told)
		r.Err = e
		for _, status := range list {
			r.Nodes = append(r.Nodes, int(status.Err))
			if status.Err == api.OK {
				r.N++
			}
		}
	case script.Query:
		list, e := migrate.Query(w.m, addr)
		r.Err = e
		for _, status := range list {
			r.Nodes = append(r.Nodes, status.To)
		}
	case script.Drain:
		r.N, r.Err = w.m.Drain(x.N)
	case script.Flush:
		r.N, r.Err = w.m.Flush(x.CPU)
	case script.Release:
		r.N = w.m.Release()
	case script.Tick:
		r.N = len(migrate.Tick(w.m, x.N))
	}
	return r
}

// shapes are machines that are short of frames after a while, and one that isn't.
func shapes() []topo.Topo {
	return []topo.Topo{
		line(1, 16, 0), line(2, 16, 0, 1), line(3, 32, 2, 0, 0, 1), line(8, 8, 0, 1, 2, 3, 4, 5, 6, 7), line(4, 512, 1, 2),
	}
}

// P23.1, P23.2: along many steps a system tells what the calls of a machine tell, and the machine is as that one; what
// a step that is refused changes is what its call changes. Another system that is told the same tells the same.
func TestManySteps(t *testing.T) {
	told := map[string]int{}
	for i, shape := range shapes() {
		marks := heap.Marks{Min: 1, Low: shape.Frames / 4, High: shape.Frames / 2}
		s, same := made(t, shape, marks), made(t, shape, marks)
		m, _ := alloc.New(shape, marks)
		w := &twin{m: m, gone: map[int]bool{}}
		d := &dice{seed: uint32(i + 11), nodes: shape.Nodes, cpu: len(shape.CPUs)}
		for n := range 4000 {
			d.given = len(w.addrs)
			x := d.step()
			want := w.do(x)
			does(t, s, x, want)
			does(t, same, x, want)
			told[fmt.Sprint(x.Kind, want.Err)]++
			if n%97 == 0 && view(s.Machine()) != view(m) {
				t.Fatalf("%d: %s, not %s", n, view(s.Machine()), view(m))
			}
		}
		if view(s.Machine()) != view(m) || view(same.Machine()) != view(m) {
			t.Errorf("%s, %s, not %s", view(s.Machine()), view(same.Machine()), view(m))
		}
		for name, want := range w.addrs {
			if addr, found := s.Address(name); addr != want || !found {
				t.Errorf("Address(%d) = %d, %v, not %d", name, addr, found, want)
			}
		}
		if _, found := s.Address(len(w.addrs)); found {
			t.Error("one more has an address")
		}
	}
	for _, kind := range kinds {
		if told[fmt.Sprint(kind, api.OK)] < 100 {
			t.Errorf("of kind %d %d steps were done", kind, told[fmt.Sprint(kind, api.OK)])
		}
	}
	for _, what := range []string{"1 5", "1 8", "1 11", "2 6", "2 11", "2 13", "3 5", "3 7", "4 6", "5 1", "5 10", "6 15", "6 6", "7 6", "7 10", "8 13", "9 10", "10 11"} {
		if told[what] == 0 {
			t.Errorf("no step was of kind and error %s", what)
		}
	}
}

// keeper knows what each live object must have, and on which nodes pages must stand.
type keeper struct {
	t       *testing.T
	s       *script.System
	content map[int][]byte      // by name of a live object
	stays   map[int]nodeset.Set // by page: nodes on which it must stand
}

// look tells P2, P4, P5 and P6 of what is there.
func (k *keeper) look() {
	k.t.Helper()
	m := k.s.Machine()
	owner := map[int]int{}
	for name, content := range k.content {
		addr, _ := k.s.Address(name)
		for at := range content {
			if other, taken := owner[addr+at]; taken {
				k.t.Fatalf("objects %d and %d share byte %d", name, other, addr+at)
			}
			owner[addr+at] = name
		}
		for at := range content {
			node, e := m.Node(addr, at)
			if e == api.OK {
				got, _ := m.Read(0, addr, at, 1)
				if got[0] != content[at] {
					k.t.Fatalf("byte %d of object %d is %d, not %d", at, name, got[0], content[at])
				}
			} else if content[at] != 0 {
				k.t.Fatalf("byte %d of object %d is lost", at, name)
			}
			if set, has := k.stays[(addr+at)/64]; has && e == api.OK && !nodeset.Has(set, node) {
				k.t.Fatalf("page %d stands on node %d, not on one of %s", (addr+at)/64, node, nodeset.Text(set))
			}
		}
	}
	if !audit.Sound(m) || len(m.Live()) != len(k.content) {
		k.t.Fatalf("the machine isn't sound: %v", audit.Nodes(m))
	}
}

// learn keeps what a step that was done means for objects and pages.
func (k *keeper) learn(x script.Step, r script.Result) {
	k.t.Helper()
	addr, _ := k.s.Address(x.Obj)
	content, lives := k.content[x.Obj]
	switch x.Kind {
	case script.Malloc:
		k.content[r.N] = make([]byte, x.N)
	case script.Free:
		for at := range content {
			delete(k.stays, (addr+at)/64)
		}
		delete(k.content, x.Obj)
	case script.Read:
		if !lives || !bytes.Equal(r.Bytes, content[x.At:x.At+x.N]) {
			k.t.Fatalf("%v told %v of %v", x, r, content)
		}
	case script.Write:
		if !lives {
			k.t.Fatalf("%v wrote into what isn't live", x)
		}
		copy(content[x.At:], x.Bytes)
	case script.MBind:
		for at := range content {
			delete(k.stays, (addr+at)/64)
		}
	case script.Migrate:
		for i, e := range r.Nodes {
			if x.Told && e == int(api.OK) {
				delete(k.stays, addr/64+i)
			}
		}
	}
}

// touched has the pages that have come to frames since then stay on the nodes of their Bind from now on.
func (k *keeper) touched(ahead []int) {
	for _, page := range k.s.Machine().Pages() {
		p, has := k.s.Machine().Book().Of(page)
		if has && p.Mode == policy.Bind && !slices.Contains(ahead, page) {
			k.stays[page] = p.Set
		}
	}
}

// refused tells whether a step may be refused so (P2: what isn't live, or out of bounds, is told).
func (k *keeper) refused(x script.Step, e api.Errno) {
	k.t.Helper()
	content, lives := k.content[x.Obj]
	_, found := k.s.Address(x.Obj)
	size := x.N
	if x.Kind == script.Write {
		size = len(x.Bytes)
	}
	inside := x.At >= 0 && size >= 0 && size <= len(content)-x.At
	wrong := e == api.ErrMiss && found || e == api.ErrBad && lives || e == api.ErrBound && inside
	if wrong && slices.Contains(ofObjects, x.Kind) {
		k.t.Fatalf("%v told %d, of %v", x, e, content)
	}
}

// P2, P4, P5, P6: of scripts: objects share no byte, what is read is what was written last, pages that were touched
// while they had a Bind stay on its nodes, and each frame is free, or a span's, or a page's. At the end all is free again.
func TestWhatScriptsTell(t *testing.T) {
	stayed := 0
	for i, shape := range shapes() {
		k := &keeper{
			t: t, s: made(t, shape, heap.Marks{Min: 0, Low: shape.Frames / 4, High: shape.Frames / 2}),
			content: map[int][]byte{}, stays: map[int]nodeset.Set{},
		}
		d := &dice{seed: uint32(i + 101), nodes: shape.Nodes, cpu: len(shape.CPUs)}
		for n := range 3000 {
			x, ahead := d.step(), k.s.Machine().Pages()
			if r := k.s.Do(x); r.Err == api.OK {
				k.learn(x, r)
			} else {
				k.refused(x, r.Err)
			}
			k.touched(ahead)
			for _, found := k.s.Address(d.given); found; _, found = k.s.Address(d.given) {
				d.given++
			}
			if n%7 == 0 {
				k.look()
				stayed += len(k.stays)
			}
		}
		for name := range d.given {
			k.s.Do(script.Step{Kind: script.Free, Obj: name})
		}
		for node := range shape.Nodes {
			k.s.Do(script.Step{Kind: script.Drain, N: node})
		}
		for cpu := range shape.CPUs {
			k.s.Do(script.Step{Kind: script.Flush, CPU: cpu})
		}
		k.s.Do(script.Step{Kind: script.Release})
		if !audit.Idle(k.s.Machine()) || !k.s.Machine().Heap().Whole() {
			t.Errorf("%v: all was freed, but the machine isn't idle", shape)
		}
	}
	if stayed < 1000 {
		t.Errorf("%d pages had a Bind when they were touched", stayed)
	}
}
