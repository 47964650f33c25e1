package table_test

import (
	"math"
	"strconv"
	"testing"

	"messuage/api"
	"messuage/table"
)

// pair is two things that belong together.
type pair[A, B comparable] struct {
	a A
	b B
}

// model is the table by its words: a list of pairs.
type model[A, B comparable] []pair[A, B]

func (m model[A, B]) byA(a A) int {
	for i, p := range m {
		if p.a == a {
			return i
		}
	}
	return -1
}

func (m model[A, B]) byB(b B) int {
	for i, p := range m {
		if p.b == b {
			return i
		}
	}
	return -1
}

func (m *model[A, B]) mapTwo(a A, b B) api.Errno {
	if m.byA(a) >= 0 || m.byB(b) >= 0 {
		return api.ErrMap
	}
	*m = append(*m, pair[A, B]{a, b})
	return api.OK
}

func (m *model[A, B]) unmap(a A) (was B, e api.Errno) {
	i := m.byA(a)
	if i < 0 {
		return was, api.ErrMap
	}
	was = (*m)[i].b
	*m = append((*m)[:i], (*m)[i+1:]...)
	return was, api.OK
}

func (m *model[A, B]) remap(a A, b B) (was B, e api.Errno) {
	i := m.byA(a)
	if i < 0 || m.byB(b) >= 0 {
		return was, api.ErrMap
	}
	was = (*m)[i].b
	(*m)[i].b = b
	return was, api.OK
}

// likeModel: the table has just the model's pairs, of all these things.
func likeModel[A, B comparable](t *testing.T, x *table.Two[A, B], m model[A, B], as []A, bs []B) {
	t.Helper()
	if x.Len() != len(m) {
		t.Fatalf("Len() = %d, not %d", x.Len(), len(m))
	}
	for _, a := range as {
		var want B
		i := m.byA(a)
		if i >= 0 {
			want = m[i].b
		}
		if b, ok := x.To(a); b != want || ok != (i >= 0) {
			t.Fatalf("To(%v) = %v, %v, of %v", a, b, ok, m)
		}
	}
	for _, b := range bs {
		var want A
		i := m.byB(b)
		if i >= 0 {
			want = m[i].a
		}
		if a, ok := x.From(b); a != want || ok != (i >= 0) {
			t.Fatalf("From(%v) = %v, %v, of %v", b, a, ok, m)
		}
	}
}

// testSteps makes many steps, each at a table and at the model: what is refused there must change nothing here.
func testSteps[A, B comparable](t *testing.T, thingA func(n int) A, thingB func(n int) B, kinds int) {
	t.Helper()
	var as []A
	var bs []B
	for n := range kinds {
		as, bs = append(as, thingA(n)), append(bs, thingB(n))
	}
	x := table.New[A, B]()
	var m model[A, B]
	likeModel(t, x, m, as, bs)
	state := uint32(kinds)
	next := func(n int) int {
		state = state*1664525 + 1013904223
		return int(state>>8) % n
	}
	for range 3000 {
		a, b := as[next(kinds)], bs[next(kinds)]
		switch next(4) {
		case 0, 1:
			if got, want := x.Map(a, b), m.mapTwo(a, b); got != want {
				t.Fatalf("Map(%v, %v) = %d, not %d", a, b, got, want)
			}
		case 2:
			was, e := x.Remap(a, b)
			if want, wantE := m.remap(a, b); was != want || e != wantE {
				t.Fatalf("Remap(%v, %v) = %v, %d, not %v, %d", a, b, was, e, want, wantE)
			}
		case 3:
			was, e := x.Unmap(a)
			if want, wantE := m.unmap(a); was != want || e != wantE {
				t.Fatalf("Unmap(%v) = %v, %d, not %v, %d", a, was, e, want, wantE)
			}
		}
		likeModel(t, x, m, as, bs)
		onlyOne(t, x, as)
	}
}

// onlyOne: no two a's have one b, and each b leads back to its a.
func onlyOne[A, B comparable](t *testing.T, x *table.Two[A, B], as []A) {
	t.Helper()
	whose := map[B]A{}
	for _, a := range as {
		b, ok := x.To(a)
		if !ok {
			continue
		}
		if other, taken := whose[b]; taken {
			t.Fatalf("%v and %v have %v", a, other, b)
		}
		whose[b] = a
		if back, ok := x.From(b); back != a || !ok {
			t.Fatalf("%v has %v, which has %v, %v", a, b, back, ok)
		}
	}
}

// P6.1, P6.2: of numbers, of texts, and of structs; the zero values are things as others are.
func TestTablesOfWhatever(t *testing.T) {
	type place struct {
		row, col int
	}
	number := func(n int) int { return n - 2 }
	text := func(n int) string {
		if n == 0 {
			return ""
		}
		return "w" + strconv.Itoa(n)
	}
	at := func(n int) place { return place{n / 2, n % 2} }
	for _, kinds := range []int{1, 2, 3, 5, 12} {
		testSteps(t, number, number, kinds)
		testSteps(t, text, number, kinds)
		testSteps(t, number, text, kinds)
		testSteps(t, text, text, kinds)
		testSteps(t, at, text, kinds)
		testSteps(t, number, at, kinds)
		testSteps(t, func(n int) float64 { return float64(n) / 2 }, func(n int) uint8 { return uint8(255 - n) }, kinds)
		testSteps(t, func(n int) any { return text(n) }, func(n int) any { return number(n) }, kinds)
	}
}

// P6.1: the document's example.
func TestExample(t *testing.T) {
	x := table.New[int, int]()
	if e := x.Map(1, 9); e != api.OK {
		t.Error(e)
	}
	if was, e := x.Remap(1, 8); was != 9 || e != api.OK {
		t.Error(was, e)
	}
	if a, ok := x.From(9); a != 0 || ok {
		t.Error(a, ok)
	}
	if a, ok := x.From(8); a != 1 || !ok || x.Len() != 1 {
		t.Error(a, ok)
	}
}

// P6.1: what is refused, each for its own reason, changes nothing.
func TestRefused(t *testing.T) {
	as, bs := []string{"a", "b", "c"}, []int{0, 1, 2, 3}
	want := model[string, int]{{"a", 0}, {"b", 1}}
	x := table.New[string, int]()
	for _, p := range want {
		x.Map(p.a, p.b)
	}
	for _, p := range []pair[string, int]{{"a", 2}, {"c", 0}, {"c", 1}, {"a", 0}, {"a", 1}, {"b", 0}} {
		if e := x.Map(p.a, p.b); e != api.ErrMap {
			t.Errorf("Map(%v) = %d", p, e)
		}
		likeModel(t, x, want, as, bs)
	}
	for _, p := range []pair[string, int]{{"a", 0}, {"a", 1}, {"b", 1}, {"b", 0}, {"c", 0}, {"c", 1}, {"c", 2}} {
		if was, e := x.Remap(p.a, p.b); was != 0 || e != api.ErrMap {
			t.Errorf("Remap(%v) = %d, %d", p, was, e)
		}
		likeModel(t, x, want, as, bs)
	}
	if was, e := x.Unmap("c"); was != 0 || e != api.ErrMap {
		t.Errorf("Unmap(c) = %d, %d", was, e)
	}
	likeModel(t, x, want, as, bs)
}

// P6.1: what was parted may be put together again, and in another way.
func TestPartedThingsAreFree(t *testing.T) {
	as, bs := []int{1, 2, 3}, []string{"x", "y", "z"}
	x := table.New[int, string]()
	x.Map(1, "x")
	x.Map(2, "y")
	if was, e := x.Unmap(1); was != "x" || e != api.OK {
		t.Error(was, e)
	}
	if was, e := x.Unmap(1); was != "" || e != api.ErrMap {
		t.Error(was, e)
	}
	if was, e := x.Remap(2, "x"); was != "y" || e != api.OK {
		t.Error(was, e)
	}
	if e := x.Map(1, "y"); e != api.OK {
		t.Error(e)
	}
	likeModel(t, x, model[int, string]{{1, "y"}, {2, "x"}}, as, bs)
	x.Unmap(1)
	x.Unmap(2)
	likeModel(t, x, nil, as, bs)
}

// P6.1: of many things.
func TestManyThings(t *testing.T) {
	const many = 5000
	x := table.New[int, string]()
	for n := range many {
		if e := x.Map(n, strconv.Itoa(many-n)); e != api.OK || x.Len() != n+1 {
			t.Fatal(n, e, x.Len())
		}
	}
	for n := range many {
		if b, ok := x.To(n); b != strconv.Itoa(many-n) || !ok {
			t.Fatal(n, b, ok)
		}
		if a, ok := x.From(strconv.Itoa(many - n)); a != n || !ok {
			t.Fatal(n, a, ok)
		}
	}
	for n := range many {
		if b, e := x.Unmap(n); b != strconv.Itoa(many-n) || e != api.OK || x.Len() != many-n-1 {
			t.Fatal(n, b, e, x.Len())
		}
	}
}

// P6.1: tables don't hang on each other.
func TestTablesAreApart(t *testing.T) {
	x, y := table.New[int, int](), table.New[int, int]()
	x.Map(1, 2)
	if _, ok := y.To(1); ok || y.Len() != 0 || y.Map(1, 2) != api.OK {
		t.Error("one table changed the other one")
	}
	y.Unmap(1)
	if b, ok := x.To(1); b != 2 || !ok || x.Len() != 1 {
		t.Error("one table changed the other one")
	}
}

// refusesAll: a table that is none answers so.
func refusesAll[A, B comparable](t *testing.T, x *table.Two[A, B], a A, b B) {
	t.Helper()
	var noA A
	var noB B
	for range 2 {
		if e := x.Map(a, b); e != api.ErrArg {
			t.Errorf("Map = %d", e)
		}
		if was, e := x.Unmap(a); was != noB || e != api.ErrArg {
			t.Errorf("Unmap = %v, %d", was, e)
		}
		if was, e := x.Remap(a, b); was != noB || e != api.ErrArg {
			t.Errorf("Remap = %v, %d", was, e)
		}
		if got, ok := x.To(a); got != noB || ok {
			t.Errorf("To = %v, %v", got, ok)
		}
		if got, ok := x.From(b); got != noA || ok {
			t.Errorf("From = %v, %v", got, ok)
		}
		if x.Len() != 0 {
			t.Errorf("Len = %d", x.Len())
		}
	}
}

// P6.1, P1: a nil table, and one that New didn't make.
func TestNilTable(t *testing.T) {
	refusesAll(t, nil, 0, 0)
	refusesAll(t, nil, "a", 7)
	refusesAll(t, nil, 7, "a")
	refusesAll[any, any](t, nil, []int{1}, []int{2})
	refusesAll(t, new(table.Two[int, string]), 7, "a")
	refusesAll(t, new(table.Two[string, int]), "", 0)
	refusesAll[any, any](t, new(table.Two[any, any]), []int{1}, []int{2})
}

// strangers are things that aren't the same as themselves: some of them can't be compared at all.
func strangers() []any {
	return []any{
		math.NaN(), []int{1}, map[int]int{}, func() {}, [1]any{[]int{1}}, struct{ x any }{func() {}},
		struct {
			n float64
			x any
		}{math.NaN(), []int{1}},
		struct {
			x any
			n float64
		}{[]int{1}, math.NaN()},
	}
}

// P1: a thing that isn't the same as itself is never found, and makes no call panic.
func TestThingsThatAreNotThemselves(t *testing.T) {
	for i, stranger := range strangers() {
		x := table.New[any, any]()
		if x.Map("a", stranger) != api.OK || x.Map(stranger, "b") != api.OK || x.Map(stranger, stranger) != api.OK || x.Len() != 3 {
			t.Errorf("%d: Map, Len %d", i, x.Len())
		}
		if _, ok := x.To("a"); !ok {
			t.Errorf("%d: To(a) is nothing", i)
		}
		if _, ok := x.From("b"); !ok {
			t.Errorf("%d: From(b) is nothing", i)
		}
		if got, ok := x.To(stranger); got != nil || ok {
			t.Errorf("%d: To = %v, %v", i, got, ok)
		}
		if got, ok := x.From(stranger); got != nil || ok {
			t.Errorf("%d: From = %v, %v", i, got, ok)
		}
		if was, e := x.Unmap(stranger); was != nil || e != api.ErrMap {
			t.Errorf("%d: Unmap = %v, %d", i, was, e)
		}
		if was, e := x.Remap(stranger, "c"); was != nil || e != api.ErrMap {
			t.Errorf("%d: Remap = %v, %d", i, was, e)
		}
		if x.Map("a", "c") != api.ErrMap || x.Map("c", "b") != api.ErrMap {
			t.Errorf("%d: what is taken is given again", i)
		}
		if was, e := x.Remap("a", stranger); was == nil || e != api.OK || x.Len() != 3 {
			t.Errorf("%d: Remap = %v, %d", i, was, e)
		}
		if was, e := x.Unmap("a"); was == nil || e != api.OK || x.Len() != 2 {
			t.Errorf("%d: Unmap = %v, %d", i, was, e)
		}
	}
}
