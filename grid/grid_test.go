package grid_test

import (
	"math"
	"slices"
	"strconv"
	"testing"

	"messuage/api"
	"messuage/grid"
)

// sides are counts of rows or columns that are allowed, the least and the greatest among them.
var sides = []int{0, 1, 2, 3, 63, 64}

// filled is a table with another thing at each place.
func filled[T comparable](t *testing.T, rows, cols int, thing func(n int) T) *grid.Grid[T] {
	t.Helper()
	g, e := grid.New[T](rows, cols)
	if e != api.OK || g == nil {
		t.Fatalf("New(%d, %d): %v, %d", rows, cols, g, e)
	}
	for row := range rows {
		for col := range cols {
			if e := g.Put(row, col, thing(row*cols+col+1)); e != api.OK {
				t.Fatalf("Put(%d, %d): %d", row, col, e)
			}
		}
	}
	return g
}

func number(n int) int { return n }

func word(n int) string { return "w" + strconv.Itoa(n) }

// P2.1, P2.2: of numbers, of texts, and of structs.
func TestTablesOfWhatever(t *testing.T) {
	type pair struct {
		n int
		s string
	}
	for _, rows := range sides {
		for _, cols := range sides {
			testTable(t, rows, cols, number)
			testTable(t, rows, cols, word)
			testTable(t, rows, cols, func(n int) pair { return pair{n, word(n)} })
		}
	}
}

func testTable[T comparable](t *testing.T, rows, cols int, thing func(n int) T) {
	t.Helper()
	testNew[T](t, rows, cols)
	g := filled(t, rows, cols, thing)
	if g.Rows() != rows || g.Cols() != cols {
		t.Errorf("%d rows, %d columns: %d, %d", rows, cols, g.Rows(), g.Cols())
	}
	for row := range rows {
		list := g.Row(row)
		if len(list) != cols {
			t.Fatalf("Row(%d) of %d columns: %v", row, cols, list)
		}
		for col := range cols {
			want := thing(row*cols + col + 1)
			if x, e := g.At(row, col); x != want || e != api.OK || list[col] != want {
				t.Errorf("at %d, %d: %v, %d, %v", row, col, x, e, list[col])
			}
		}
	}
	testNoPlaces(t, g, thing)
	testTurned(t, g)
	testSame(t, g, thing)
}

// testNew: a new table has zero values.
func testNew[T comparable](t *testing.T, rows, cols int) {
	t.Helper()
	g, e := grid.New[T](rows, cols)
	if e != api.OK {
		t.Fatal(e)
	}
	var zero T
	for row := range rows {
		for col := range cols {
			if x, e := g.At(row, col); x != zero || e != api.OK {
				t.Errorf("new, at %d, %d: %v, %d", row, col, x, e)
			}
		}
	}
}

// testNoPlaces: at, and of, what isn't there; what is refused changes nothing.
func testNoPlaces[T comparable](t *testing.T, g *grid.Grid[T], thing func(n int) T) {
	t.Helper()
	var zero T
	before := g.Turned().Turned()
	rows, cols := g.Rows(), g.Cols()
	for _, p := range [][2]int{
		{-1, 0}, {0, -1}, {rows, 0}, {0, cols}, {rows, cols}, {-1, cols}, {rows, -1}, {1, -1}, {-1, 1}, {rows + 1, 0}, {0, cols + 1},
		{math.MaxInt, 0}, {0, math.MaxInt}, {math.MinInt, 0}, {0, math.MinInt}, {math.MaxInt, math.MaxInt}, {math.MinInt, math.MinInt},
	} {
		if x, e := g.At(p[0], p[1]); x != zero || e != api.ErrArg {
			t.Errorf("At%v = %v, %d", p, x, e)
		}
		if e := g.Put(p[0], p[1], thing(9999)); e != api.ErrArg {
			t.Errorf("Put%v = %d", p, e)
		}
	}
	for _, row := range []int{-1, rows, rows + 1, math.MaxInt, math.MinInt} {
		if l := g.Row(row); len(l) != 0 {
			t.Errorf("Row(%d) = %v", row, l)
		}
	}
	if !before.Same(g) {
		t.Error("a refused Put changed the table")
	}
}

// testTurned: rows and columns are exchanged, and back.
func testTurned[T comparable](t *testing.T, g *grid.Grid[T]) {
	t.Helper()
	turned := g.Turned()
	if turned.Rows() != g.Cols() || turned.Cols() != g.Rows() {
		t.Fatalf("turned: %d, %d", turned.Rows(), turned.Cols())
	}
	for row := range g.Rows() {
		for col := range g.Cols() {
			x, _ := g.At(row, col)
			if y, e := turned.At(col, row); x != y || e != api.OK {
				t.Errorf("turned at %d, %d: %v, not %v", col, row, y, x)
			}
		}
	}
	if back := turned.Turned(); !back.Same(g) || !g.Same(back) {
		t.Error("turned twice it isn't the same")
	}
}

// testSame: it isn't, when one place or one side is another one.
func testSame[T comparable](t *testing.T, g *grid.Grid[T], thing func(n int) T) {
	t.Helper()
	rows, cols := g.Rows(), g.Cols()
	if !g.Same(g) || g.Same(nil) {
		t.Error("same as itself alone")
	}
	if onePlaceOrNone := rows == cols && rows < 2; g.Same(g.Turned()) != onePlaceOrNone {
		t.Errorf("of %d, %d: same as turned: %v", rows, cols, g.Same(g.Turned()))
	}
	if rows == 0 || cols == 0 {
		return
	}
	for _, p := range [][2]int{{0, 0}, {rows - 1, cols - 1}, {0, cols - 1}, {rows - 1, 0}} {
		other := filled(t, rows, cols, thing)
		if !g.Same(other) || !other.Same(g) {
			t.Error("the same things aren't the same")
		}
		other.Put(p[0], p[1], thing(9999))
		if g.Same(other) || other.Same(g) {
			t.Errorf("another thing at %v is the same", p)
		}
	}
}

// P2.1: the sides count also where there is no place, or as many.
func TestSameLooksAtSides(t *testing.T) {
	sizes := [][2]int{{0, 0}, {0, 3}, {3, 0}, {0, 2}, {1, 4}, {4, 1}, {2, 2}, {2, 6}, {6, 2}, {3, 4}}
	for _, a := range sizes {
		for _, b := range sizes {
			g, _ := grid.New[int](a[0], a[1])
			o, _ := grid.New[int](b[0], b[1])
			if g.Same(o) != (a == b) {
				t.Errorf("%v and %v: %v", a, b, g.Same(o))
			}
		}
	}
}

// P2.1: wrong sides.
func TestNewRefuses(t *testing.T) {
	for _, wrong := range []int{-1, 65, 1 << 32, math.MaxInt, math.MinInt} {
		for _, good := range append(slices.Clone(sides), wrong) {
			if g, e := grid.New[string](wrong, good); g != nil || e != api.ErrCount {
				t.Errorf("New(%d, %d) = %v, %d", wrong, good, g, e)
			}
			if g, e := grid.New[string](good, wrong); g != nil || e != api.ErrCount {
				t.Errorf("New(%d, %d) = %v, %d", good, wrong, g, e)
			}
		}
	}
}

// P2.1, P1: a nil grid.
func TestNilGrid(t *testing.T) {
	var g *grid.Grid[string]
	for _, p := range [][2]int{{0, 0}, {-1, 3}, {5, 5}} {
		if x, e := g.At(p[0], p[1]); x != "" || e != api.ErrArg {
			t.Error(x, e)
		}
		if e := g.Put(p[0], p[1], "x"); e != api.ErrArg {
			t.Error(e)
		}
		if l := g.Row(p[0]); len(l) != 0 {
			t.Error(l)
		}
	}
	if g.Rows() != 0 || g.Cols() != 0 || g.Turned() != nil {
		t.Error("a nil grid has something")
	}
	empty, _ := grid.New[string](0, 0)
	if !g.Same(nil) || g.Same(empty) || empty.Same(g) {
		t.Error("nil is the same only to nil")
	}
}

// P1: values of an interface that can't be compared don't make a panic.
func TestThingsThatCannotBeCompared(t *testing.T) {
	g, _ := grid.New[any](1, 2)
	g.Put(0, 0, "x")
	g.Put(0, 1, []int{1})
	if g.Same(g.Turned().Turned()) {
		t.Error("what can't be compared is the same")
	}
	if x, e := g.Turned().At(1, 0); e != api.OK || !slices.Equal(x.([]int), []int{1}) {
		t.Error(x, e)
	}
	g.Put(0, 1, 1)
	if !g.Same(g.Turned().Turned()) {
		t.Error("what can be compared isn't the same")
	}
}

// P2.1: the document's example.
func TestExample(t *testing.T) {
	g, _ := grid.New[int](2, 3)
	if e := g.Put(1, 2, 7); e != api.OK {
		t.Error(e)
	}
	if x, e := g.Turned().At(2, 1); x != 7 || e != api.OK {
		t.Error(x, e)
	}
}

// P2.3: rows and turned tables are new memory, to the end of their room.
func TestMemoryOfGridsIsNotShared(t *testing.T) {
	g := filled(t, 3, 3, number)
	copied := filled(t, 3, 3, number)
	for row := range 3 {
		list := g.Row(row)
		list = list[:cap(list)]
		for i := range list {
			list[i] = 99
		}
	}
	if !g.Same(copied) {
		t.Error("a row shares memory with its grid")
	}
	first, second := g.Row(1), g.Row(1)
	first[0] = 99
	if second[0] != 4 {
		t.Error("rows share memory")
	}
	turned := g.Turned()
	turned.Put(0, 0, 99)
	if !g.Same(copied) {
		t.Error("a turned grid shares memory with its grid")
	}
	turned = g.Turned()
	g.Put(0, 0, 99)
	if !turned.Same(copied.Turned()) {
		t.Error("a grid shares memory with its turned one")
	}
	for _, sides := range [][2]int{{1, 5}, {5, 1}, {1, 1}} {
		g := filled(t, sides[0], sides[1], number)
		g.Turned().Put(0, 0, 99)
		if x, _ := g.At(0, 0); x != 1 {
			t.Error("a turned grid of one row or column shares memory with its grid")
		}
	}
}
