package bind_test

import (
	"math"
	"slices"
	"testing"

	"messuage/api"
	"messuage/bind"
	"messuage/nodeset"
	"messuage/policy"
)

// The greatest counts by the chapter.
const (
	pages    = 4096
	greatest = 8
)

// noSizes are counts of nodes that no book has.
var noSizes = []int{0, -1, -2, -8, 9, 10, 16, 255, 256, 257, 1 << 32, 1<<32 + 1, math.MaxInt, math.MaxInt - 1, math.MinInt, math.MinInt + 1}

// noPages are numbers of no page.
var noPages = []int{-1, -2, -4095, -4096, 4096, 4097, 8191, 8192, 1 << 16, 1 << 32, 1<<32 + 1, math.MaxInt, math.MaxInt - 1, math.MinInt, math.MinInt + 1}

// stretch is n pages from page on.
type stretch struct {
	page, n int
}

// noStretches are of pages that there aren't, in part or all, or of none.
func noStretches() []stretch {
	var list []stretch
	for _, page := range noPages {
		for _, n := range []int{1, 2, 4096, 4097, -page, 1 - page, math.MaxInt, math.MinInt} {
			list = append(list, stretch{page, n})
		}
	}
	for _, page := range []int{0, 1, 2, 64, 2048, 4094, 4095} {
		for _, n := range []int{0, -1, -2, -page, -4096, 4097 - page, 4098 - page, 4097, 8192, 1 << 32, 1<<32 + 1, math.MaxInt, math.MaxInt - page, math.MaxInt - page + 1, math.MinInt, math.MinInt + 1} {
			if n < 1 || page+n < page || page+n > pages {
				list = append(list, stretch{page, n})
			}
		}
	}
	return list
}

// noNodes are numbers of no node of so many.
func noNodes(nodes int) []int {
	return []int{-1, -2, -nodes, nodes, nodes + 1, 8, 9, 64, 255, 256, 1 << 32, 1<<32 + 1, math.MaxInt, math.MaxInt - 1, math.MinInt, math.MinInt + 1}
}

// goodPolicies are some of each mode, on so many nodes: of one node, of all, of those between.
func goodPolicies(nodes int) []policy.Policy {
	list := []policy.Policy{{}}
	for s := 1; s < 1<<nodes; s++ {
		list = append(list,
			policy.Policy{Mode: policy.Bind, Set: nodeset.Set(s)},
			policy.Policy{Mode: policy.Interleave, Set: nodeset.Set(s)})
	}
	for node := range nodes {
		list = append(list, policy.Policy{Mode: policy.Preferred, Node: node})
	}
	return list
}

// wrong is a policy that none is on so many nodes, and what it is told.
type wrong struct {
	p    policy.Policy
	want api.Errno
}

func wrongPolicies(nodes int) []wrong {
	var list []wrong
	for _, mode := range []int{-1, 4, 5, 256, 257, 1 << 32, 1<<32 + 1, math.MaxInt, math.MinInt} {
		list = append(list, wrong{policy.Policy{Mode: mode, Set: 1}, api.ErrArg})
	}
	for _, mode := range []int{policy.Bind, policy.Interleave} {
		list = append(list, wrong{policy.Policy{Mode: mode}, api.ErrArg})
		for node := nodes; node < greatest; node++ {
			list = append(list,
				wrong{policy.Policy{Mode: mode, Set: 1 << node}, api.ErrNode},
				wrong{policy.Policy{Mode: mode, Set: 1<<node | 1}, api.ErrNode})
		}
	}
	for _, node := range noNodes(nodes) {
		list = append(list, wrong{policy.Policy{Mode: policy.Preferred, Set: 1, Node: node}, api.ErrNode})
	}
	return list
}

func made(t *testing.T, nodes int) *bind.Book {
	t.Helper()
	b, e := bind.New(nodes)
	if b == nil || e != api.OK {
		t.Fatalf("New(%d) = %v, %d", nodes, b, e)
	}
	return b
}

func sets(t *testing.T, b *bind.Book, page, n int, p policy.Policy, want api.Errno) {
	t.Helper()
	if e := b.Set(page, n, p); e != want {
		t.Errorf("Set(%d, %d, %v) = %d, not %d", page, n, p, e, want)
	}
}

func clears(t *testing.T, b *bind.Book, page, n int, want api.Errno) {
	t.Helper()
	if e := b.Clear(page, n); e != want {
		t.Errorf("Clear(%d, %d) = %d, not %d", page, n, e, want)
	}
}

func has(t *testing.T, b *bind.Book, page int, want policy.Policy) {
	t.Helper()
	if p, ok := b.Of(page); p != want || !ok {
		t.Errorf("Of(%d) = %v, %v, not %v", page, p, ok, want)
	}
}

func hasNone(t *testing.T, b *bind.Book, page int) {
	t.Helper()
	if p, ok := b.Of(page); p != (policy.Policy{}) || ok {
		t.Errorf("Of(%d) = %v, %v, of none", page, p, ok)
	}
}

func may(t *testing.T, b *bind.Book, page, node int, want bool) {
	t.Helper()
	if ok := b.Ok(page, node); ok != want {
		t.Errorf("Ok(%d, %d) = %v", page, node, ok)
	}
}

// kept is what a page has.
type kept struct {
	p  policy.Policy
	is bool
}

// model is a book, page by page.
type model struct {
	nodes int
	pages [pages]kept
}

func (m *model) set(t *testing.T, b *bind.Book, page, n int, p policy.Policy) {
	t.Helper()
	sets(t, b, page, n, p, api.OK)
	for i := page; i < page+n; i++ {
		m.pages[i] = kept{p, true}
	}
}

func (m *model) clear(t *testing.T, b *bind.Book, page, n int) {
	t.Helper()
	clears(t, b, page, n, api.OK)
	for i := page; i < page+n; i++ {
		m.pages[i] = kept{}
	}
}

// ok is Ok by its words.
func (m *model) ok(page, node int) bool {
	k := m.pages[page]
	isNode := node >= 0 && node < m.nodes
	return isNode && (!k.is || k.p.Mode != 1 || k.p.Set>>node&1 == 1)
}

// stands tells whether a book is as the model, of each page and node, and of some that there aren't.
func (m *model) stands(t *testing.T, b *bind.Book) {
	t.Helper()
	for page, k := range m.pages {
		if k.is {
			has(t, b, page, k.p)
		} else {
			hasNone(t, b, page)
		}
		for node := -1; node <= m.nodes; node++ {
			may(t, b, page, node, m.ok(page, node))
		}
	}
	for _, page := range noPages {
		hasNone(t, b, page)
	}
}

// both are a new book and its model.
func both(t *testing.T, nodes int) (*bind.Book, *model) {
	t.Helper()
	return made(t, nodes), &model{nodes: nodes}
}

// P18.1: New, of each count of nodes: no page has a policy, and each may stand everywhere.
func TestNew(t *testing.T) {
	if pages != api.MaxPages || greatest != api.MaxNodes {
		t.Fatal("limits")
	}
	for nodes := 1; nodes <= greatest; nodes++ {
		b, m := both(t, nodes)
		m.stands(t, b)
	}
}

// P18.1, P1: counts of nodes that no book has.
func TestNewRefuses(t *testing.T) {
	for _, nodes := range noSizes {
		if b, e := bind.New(nodes); b != nil || e != api.ErrCount {
			t.Errorf("New(%d) = %v, %d", nodes, b, e)
		}
	}
}

// P18.1: the document's example.
func TestExample(t *testing.T) {
	b := made(t, 2)
	sets(t, b, 5, 2, policy.Policy{Mode: policy.Bind, Set: 2}, api.OK)
	may(t, b, 6, 1, true)
	may(t, b, 6, 0, false)
	may(t, b, 7, 0, true)
}

// P18.1: which pages Set and Clear are of: the first and the last page, one and all, and none beside them.
func TestStretches(t *testing.T) {
	p := policy.Policy{Mode: policy.Bind, Set: 2}
	for _, s := range []stretch{
		{0, 1}, {1, 1}, {5, 2}, {4095, 1}, {4094, 2}, {4094, 1}, {0, 4096}, {0, 4095}, {1, 4095}, {1, 4094}, {64, 16}, {2048, 2048},
	} {
		b, m := both(t, 2)
		m.set(t, b, s.page, s.n, p)
		m.stands(t, b)
		m.clear(t, b, s.page, s.n)
		m.stands(t, b)
		m.set(t, b, 0, pages, p)
		m.clear(t, b, s.page, s.n)
		m.stands(t, b)
	}
}

// P18.1: each policy on each count of nodes: Of is what was set, and only a Bind keeps pages from nodes.
func TestEachPolicy(t *testing.T) {
	for nodes := 1; nodes <= greatest; nodes++ {
		b := made(t, nodes)
		for i, p := range goodPolicies(nodes) {
			sets(t, b, i, 1, p, api.OK)
		}
		for i, p := range goodPolicies(nodes) {
			has(t, b, i, p)
			for node := range nodes {
				may(t, b, i, node, p.Mode != policy.Bind || nodeset.Has(p.Set, node))
			}
			for _, node := range noNodes(nodes) {
				may(t, b, i, node, false)
			}
		}
	}
}

// P18.1: a Default that was set is a policy, and none isn't.
func TestDefaultIsAPolicy(t *testing.T) {
	b := made(t, 2)
	sets(t, b, 3, 1, policy.Policy{}, api.OK)
	has(t, b, 3, policy.Policy{})
	hasNone(t, b, 2)
	clears(t, b, 3, 1, api.OK)
	hasNone(t, b, 3)
}

// P18.1: a policy stands as it was told; what its mode doesn't have isn't looked at.
func TestWhatAModeHasNotIsNotLookedAt(t *testing.T) {
	b := made(t, 2)
	for i, p := range []policy.Policy{
		{Mode: policy.Default, Set: 255, Node: 99},
		{Mode: policy.Interleave, Set: 1, Node: -1},
		{Mode: policy.Preferred, Set: 1, Node: 1},
		{Mode: policy.Bind, Set: 1, Node: 1},
	} {
		sets(t, b, i, 1, p, api.OK)
		has(t, b, i, p)
		may(t, b, i, 0, true)
		may(t, b, i, 1, p.Mode != policy.Bind)
	}
}

// P18.1: what is set last holds, page by page: over the middle, over both sides, and over all.
func TestSetInsteadOfAnother(t *testing.T) {
	bound := policy.Policy{Mode: policy.Bind, Set: 5}
	preferred := policy.Policy{Mode: policy.Preferred, Node: 1}
	spread := policy.Policy{Mode: policy.Interleave, Set: 3}
	b, m := both(t, 3)
	m.set(t, b, 10, 10, bound)
	m.set(t, b, 13, 3, preferred)
	m.stands(t, b)
	may(t, b, 13, 1, true)
	may(t, b, 12, 1, false)
	m.set(t, b, 5, 7, spread)
	m.set(t, b, 18, 7, spread)
	m.stands(t, b)
	m.set(t, b, 14, 1, policy.Policy{Mode: policy.Bind, Set: 1})
	m.stands(t, b)
	m.set(t, b, 0, 100, bound)
	m.stands(t, b)
	m.set(t, b, 0, 100, bound)
	m.stands(t, b)
}

// P18.1: Clear, within others, over none, and twice.
func TestClear(t *testing.T) {
	b, m := both(t, 2)
	m.clear(t, b, 0, pages)
	m.stands(t, b)
	m.set(t, b, 10, 10, policy.Policy{Mode: policy.Bind, Set: 1})
	m.clear(t, b, 14, 2)
	m.stands(t, b)
	m.clear(t, b, 14, 2)
	m.stands(t, b)
	m.clear(t, b, 0, 11)
	m.clear(t, b, 19, 100)
	m.stands(t, b)
	m.set(t, b, 15, 1, policy.Policy{Mode: policy.Bind, Set: 2})
	m.stands(t, b)
	m.clear(t, b, 0, pages)
	m.stands(t, b)
}

// full are a book of so many nodes in which some pages have policies, the first and the last among them, and its model.
func full(t *testing.T, nodes int) (*bind.Book, *model) {
	t.Helper()
	b, m := both(t, nodes)
	m.set(t, b, 0, 70, policy.Policy{Mode: policy.Bind, Set: 1 << (nodes - 1)})
	m.set(t, b, 2, 1, policy.Policy{Mode: policy.Preferred, Node: nodes - 1})
	m.set(t, b, 4090, 6, policy.Policy{Mode: policy.Bind, Set: 1})
	return b, m
}

// P18.1, P1: pages that there aren't, in part or all, and none: refused, and nothing changes, not even of pages that there are.
func TestNoStretches(t *testing.T) {
	b, m := full(t, 2)
	for _, s := range noStretches() {
		sets(t, b, s.page, s.n, policy.Policy{Mode: policy.Bind, Set: 2}, api.ErrArg)
		clears(t, b, s.page, s.n, api.ErrArg)
	}
	m.stands(t, b)
}

// P18.1, P1: policies that are none are told as policy.Check tells them, and change nothing.
func TestWrongPolicies(t *testing.T) {
	for nodes := 1; nodes <= greatest; nodes++ {
		b, m := full(t, nodes)
		for _, w := range wrongPolicies(nodes) {
			if e := policy.Check(w.p, nodes); e != w.want {
				t.Fatalf("Check(%v, %d) = %d, not %d", w.p, nodes, e, w.want)
			}
			for _, s := range []stretch{{0, 1}, {1, 3}, {100, 5}, {4095, 1}, {0, pages}} {
				sets(t, b, s.page, s.n, w.p, w.want)
			}
		}
		m.stands(t, b)
	}
}

// P18.1: of pages that there aren't and a policy that is none the pages are told.
func TestPagesAreToldAheadOfThePolicy(t *testing.T) {
	b := made(t, 2)
	wrongOne := policy.Policy{Mode: policy.Bind, Set: 4}
	for _, s := range noStretches() {
		sets(t, b, s.page, s.n, wrongOne, api.ErrArg)
	}
	sets(t, b, 4095, 1, wrongOne, api.ErrNode)
}

// P18.1, P1: a page that there isn't has no policy, so it may stand on each node, and on nothing else.
func TestNoPages(t *testing.T) {
	b := made(t, 3)
	sets(t, b, 0, pages, policy.Policy{Mode: policy.Bind, Set: 1}, api.OK)
	for _, page := range noPages {
		hasNone(t, b, page)
		for node := range 3 {
			may(t, b, page, node, true)
		}
		for _, node := range noNodes(3) {
			may(t, b, page, node, false)
		}
	}
}

// P18.1: many steps, against the model, wrong ones among them.
func TestManySteps(t *testing.T) {
	for nodes := 1; nodes <= greatest; nodes++ {
		b, m := both(t, nodes)
		good, bad := goodPolicies(nodes), wrongPolicies(nodes)
		seed := uint32(nodes)
		next := func(n int) int {
			seed = seed*1664525 + 1013904223
			return int(seed>>8) % n
		}
		for step := range 60 {
			page := next(pages)
			n := 1 + next(min(pages-page, 1+next(pages)))
			switch what := next(8); {
			case what < 4:
				m.set(t, b, page, n, good[next(len(good))])
			case what < 6:
				m.clear(t, b, page, n)
			case what < 7:
				w := bad[next(len(bad))]
				sets(t, b, page, n, w.p, w.want)
			default:
				sets(t, b, page, pages-page+1, good[next(len(good))], api.ErrArg)
				clears(t, b, page, pages-page+1, api.ErrArg)
			}
			m.stands(t, b)
			if t.Failed() {
				t.Fatalf("step %d of %d nodes", step, nodes)
			}
		}
	}
}

// P18.1: what asks changes nothing: a page that was only asked of has no policy still.
func TestAskingChangesNothing(t *testing.T) {
	b, m := full(t, 2)
	for range 2 {
		m.stands(t, b)
	}
}

// P18.1: what was handed in and what is answered are the caller's: what is done to them later doesn't change the book.
func TestPoliciesAreNotShared(t *testing.T) {
	b, m := both(t, 2)
	p := policy.Policy{Mode: policy.Bind, Set: 1}
	m.set(t, b, 4, 3, p)
	p.Set = 2
	answer, _ := b.Of(5)
	answer.Mode = policy.Default
	m.stands(t, b)
	m.set(t, b, 5, 1, p)
	if answer != (policy.Policy{Set: 1}) {
		t.Errorf("the answer is now %v", answer)
	}
	m.stands(t, b)
}

// Rule 5: books are apart from each other.
func TestApart(t *testing.T) {
	one, m := full(t, 2)
	other, n := both(t, 2)
	n.stands(t, other)
	n.set(t, other, 0, pages, policy.Policy{Mode: policy.Interleave, Set: 3})
	m.stands(t, one)
	m.clear(t, one, 0, pages)
	n.stands(t, other)
}

// asNil tells whether a book answers as the chapter says of a nil one.
func asNil(t *testing.T, b *bind.Book) {
	t.Helper()
	policies := []policy.Policy{{}, {Mode: policy.Bind, Set: 1}, {Mode: policy.Bind}, {Mode: 9}, {Mode: policy.Preferred, Node: 9}}
	for _, s := range append(noStretches(), stretch{0, 1}, stretch{5, 2}, stretch{0, pages}) {
		for _, p := range policies {
			sets(t, b, s.page, s.n, p, api.ErrArg)
		}
		clears(t, b, s.page, s.n, api.ErrArg)
	}
	for _, page := range append(slices.Clone(noPages), 0, 1, 5, 4095) {
		hasNone(t, b, page)
		for _, node := range append(noNodes(1), 0, 1, 7) {
			may(t, b, page, node, false)
		}
	}
}

// P18.1, P1: a nil book.
func TestNil(t *testing.T) {
	asNil(t, nil)
}

// P1: a book that New didn't make has no nodes, and answers as a nil one.
func TestNotMade(t *testing.T) {
	asNil(t, &bind.Book{})
}
