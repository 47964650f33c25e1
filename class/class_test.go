package class_test

import (
	"math"
	"testing"

	"messuage/api"
	"messuage/class"
)

// noClasses are numbers of no class.
var noClasses = []int{-1, -2, -4, 4, 5, 8, 255, 256, 1 << 32, 1<<32 + 1, math.MaxInt, math.MaxInt - 1, math.MinInt, math.MinInt + 1}

// farSizes are sizes that no object has, small or large.
var farSizes = []int{0, -1, -7, -8, -64, -1024, 1025, 1088, 4096, 65536, 1 << 32, 1<<32 + 1, 1<<32 + 64, math.MaxInt, math.MaxInt - 62, math.MaxInt - 63, math.MinInt, math.MinInt + 1, math.MinInt + 64}

// rows are the chapter's table: size, order, count.
var rows = [][3]int{{8, 0, 8}, {16, 0, 4}, {32, 1, 4}, {64, 2, 4}}

func answers(t *testing.T, name string, call func(int) (int, api.Errno), n, want int, wantE api.Errno) {
	t.Helper()
	if got, e := call(n); got != want || e != wantE {
		t.Errorf("%s(%d) = %d, %d, not %d, %d", name, n, got, e, want, wantE)
	}
}

// P12.1: Size, Order and Count, of each class, from the first to the last.
func TestRows(t *testing.T) {
	if len(rows) != api.Classes {
		t.Fatal("classes")
	}
	for c, row := range rows {
		answers(t, "Size", class.Size, c, row[0], api.OK)
		answers(t, "Order", class.Order, c, row[1], api.OK)
		answers(t, "Count", class.Count, c, row[2], api.OK)
	}
}

// P12.1, P1: what is no class is told.
func TestNoClass(t *testing.T) {
	for _, c := range noClasses {
		answers(t, "Size", class.Size, c, 0, api.ErrArg)
		answers(t, "Order", class.Order, c, 0, api.ErrArg)
		answers(t, "Count", class.Count, c, 0, api.ErrArg)
	}
}

// P12.1: Of, at the least and the greatest size of each class.
func TestOfEdges(t *testing.T) {
	for c, edges := range [][2]int{{1, 8}, {9, 16}, {17, 32}, {33, 64}} {
		answers(t, "Of", class.Of, edges[0], c, api.OK)
		answers(t, "Of", class.Of, edges[1], c, api.OK)
	}
	answers(t, "Of", class.Of, 0, 0, api.ErrSize)
	answers(t, "Of", class.Of, 65, 0, api.ErrSize)
}

// P12.1: Of, at all sizes: the least class that has so many bytes.
func TestOf(t *testing.T) {
	for n := 1; n <= api.MaxSmall; n++ {
		want := 0
		for rows[want][0] < n {
			want++
		}
		answers(t, "Of", class.Of, n, want, api.OK)
	}
}

// P12.1, P1: sizes that are small ones of no class, those of large objects among them.
func TestOfNoSize(t *testing.T) {
	for n := api.MaxSmall + 1; n <= api.MaxSize; n++ {
		answers(t, "Of", class.Of, n, 0, api.ErrSize)
	}
	for _, n := range farSizes {
		answers(t, "Of", class.Of, n, 0, api.ErrSize)
	}
}

// P12.1: Pages, at the edges: the first and the last byte of a page.
func TestPagesEdges(t *testing.T) {
	answers(t, "Pages", class.Pages, 0, 0, api.ErrSize)
	answers(t, "Pages", class.Pages, 1, 1, api.OK)
	answers(t, "Pages", class.Pages, 64, 1, api.OK)
	answers(t, "Pages", class.Pages, 65, 2, api.OK)
	answers(t, "Pages", class.Pages, 128, 2, api.OK)
	answers(t, "Pages", class.Pages, 129, 3, api.OK)
	answers(t, "Pages", class.Pages, 960, 15, api.OK)
	answers(t, "Pages", class.Pages, 961, 16, api.OK)
	answers(t, "Pages", class.Pages, 1024, 16, api.OK)
	answers(t, "Pages", class.Pages, 1025, 0, api.ErrSize)
}

// P12.1: Pages, at all sizes: as many as hold so many bytes, and not one more.
func TestPages(t *testing.T) {
	for n := 1; n <= api.MaxSize; n++ {
		want := 0
		for want*api.PageSize < n {
			want++
		}
		answers(t, "Pages", class.Pages, n, want, api.OK)
	}
}

// P12.1, P1: sizes that no large object has.
func TestPagesNoSize(t *testing.T) {
	for _, n := range farSizes {
		answers(t, "Pages", class.Pages, n, 0, api.ErrSize)
	}
}

// P12.2: a span's objects have just the bytes of its frames.
func TestSpansAreFilled(t *testing.T) {
	for c := range api.Classes {
		size, _ := class.Size(c)
		order, _ := class.Order(c)
		count, _ := class.Count(c)
		if size < 1 || size*count != api.PageSize<<order {
			t.Errorf("class %d: %d objects of %d bytes in a run of order %d", c, count, size, order)
		}
	}
}

// P12.1: the chapter's example.
func TestExample(t *testing.T) {
	answers(t, "Of", class.Of, 17, 2, api.OK)
	answers(t, "Pages", class.Pages, 65, 2, api.OK)
}
