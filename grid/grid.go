// Package grid is layer 2: tables of whatever: see shared/doc/02-grid.md.
package grid

import (
	"slices"

	"messuage/api"
)

// maxSide is how many rows, or columns, a table may have.
const maxSide = 64

// Grid is a table. Its cells stand row behind row; both counts are kept, for a table of no cell has them too.
type Grid[T comparable] struct {
	rows, cols int
	cells      []T
}

// New is a table of so many rows and columns, of zero values.
func New[T comparable](rows, cols int) (*Grid[T], api.Errno) {
	if !isSide(rows) || !isSide(cols) {
		return nil, api.ErrCount
	}
	return &Grid[T]{rows: rows, cols: cols, cells: make([]T, rows*cols)}, api.OK
}

// At is what stands at a place.
func (g *Grid[T]) At(row, col int) (T, api.Errno) {
	if !g.has(row, col) {
		var none T
		return none, api.ErrArg
	}
	return g.cells[row*g.cols+col], api.OK
}

// Put lays x at a place.
func (g *Grid[T]) Put(row, col int, x T) api.Errno {
	if !g.has(row, col) {
		return api.ErrArg
	}
	g.cells[row*g.cols+col] = x
	return api.OK
}

// Rows is how many rows there are.
func (g *Grid[T]) Rows() int {
	if g == nil {
		return 0
	}
	return g.rows
}

// Cols is how many columns there are.
func (g *Grid[T]) Cols() int {
	if g == nil {
		return 0
	}
	return g.cols
}

// Row is one row, from the first column on; nothing if there is no such row.
func (g *Grid[T]) Row(row int) []T {
	if row < 0 || row >= g.Rows() {
		return nil
	}
	return slices.Clone(g.cells[row*g.cols : (row+1)*g.cols])
}

// Turned is a new table, with rows and columns exchanged.
func (g *Grid[T]) Turned() *Grid[T] {
	if g == nil {
		return nil
	}
	turned := &Grid[T]{rows: g.cols, cols: g.rows, cells: make([]T, len(g.cells))}
	for row := range g.rows {
		for col := range g.cols {
			turned.cells[col*g.rows+row] = g.cells[row*g.cols+col]
		}
	}
	return turned
}

// Same tells whether the other one has the same sides, and the same at each place.
func (g *Grid[T]) Same(o *Grid[T]) (same bool) {
	if g == nil || o == nil {
		return g == nil && o == nil
	}
	// T may be an interface whose values can't be compared when it comes to it: such ones are never the same.
	defer func() {
		if recover() != nil {
			same = false
		}
	}()
	return g.rows == o.rows && g.cols == o.cols && slices.Equal(g.cells, o.cells)
}

func isSide(n int) bool {
	return n >= 0 && n <= maxSide
}

func (g *Grid[T]) has(row, col int) bool {
	return row >= 0 && row < g.Rows() && col >= 0 && col < g.Cols()
}
