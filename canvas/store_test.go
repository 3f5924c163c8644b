package canvas

import (
	"math/rand"
	"testing"

	"glyph/api"
)

var plain = api.Map{XX: 1024, YY: 1024}

func on(x, y int) api.Point { return api.Point{X: x, Y: y} }

func box(a, b, c, d int) []api.Point {
	return []api.Point{on(a, b), on(c, b), on(c, d), on(a, d)}
}

func canvasOf(t *testing.T, w, h, store int) *Canvas {
	t.Helper()
	c, e := New(w, h, store)
	if e != api.OK {
		t.Fatalf("New(%d, %d, %d) = %d", w, h, store, e)
	}
	return &c
}

func mustAdd(t *testing.T, c *Canvas, o [][]api.Point) {
	t.Helper()
	if e := c.Add(o, plain); e != api.OK {
		t.Fatalf("Add = %d", e)
	}
}

func mustTake(t *testing.T, c *Canvas, o [][]api.Point) {
	t.Helper()
	if e := c.Take(o, plain); e != api.OK {
		t.Fatalf("Take = %d", e)
	}
}

// columns: in which columns of each row there is something.
func columns(c *Canvas) [][]int {
	l := make([][]int, len(c.rows.cells))
	for j, row := range c.rows.cells {
		for _, x := range row {
			l[j] = append(l[j], x.column)
		}
	}
	return l
}

func sameColumns(t *testing.T, name string, c *Canvas, want [][]int) {
	t.Helper()
	got := columns(c)
	same := len(got) == len(want)
	for j := 0; same && j < len(want); j++ {
		same = len(got[j]) == len(want[j])
		for k := 0; same && k < len(want[j]); k++ {
			same = got[j][k] == want[j][k]
		}
	}
	if !same {
		t.Errorf("P9: %s: the rows have the columns %v, want %v", name, got, want)
	}
}

// TestP9TableOfAllPixels: store 0 has a sum for each pixel, and no rows.
func TestP9TableOfAllPixels(t *testing.T) {
	c := canvasOf(t, 5, 3, asTable)
	check := func(name string) {
		if len(c.table.areas) != 15 || len(c.rows.cells) != 0 {
			t.Errorf("P9: %s: a table of %d, rows %d; want 15 and 0", name, len(c.table.areas), len(c.rows.cells))
		}
	}
	check("New")
	mustAdd(t, c, [][]api.Point{box(-10, -10, 1000, 1000)})
	check("Add")
	c.Clear()
	check("Clear")
}

// TestP9OnlyWhereSomethingIs: store 1 has cells there alone, and no table.
func TestP9OnlyWhereSomethingIs(t *testing.T) {
	c := canvasOf(t, 5, 4, byRow)
	nothing := make([][]int, 4)
	sameColumns(t, "New", c, nothing)
	one := [][]api.Point{box(70, 70, 250, 180)}
	mustAdd(t, c, one)
	sameColumns(t, "one box", c, [][]int{nil, {1, 3}, {1, 3}, nil})
	mustAdd(t, c, [][]api.Point{box(0, 70, 140, 100)})
	sameColumns(t, "a second box", c, [][]int{nil, {0, 1, 2, 3}, {1, 3}, nil})
	mustTake(t, c, one)
	sameColumns(t, "the first one taken", c, [][]int{nil, {0, 2}, nil, nil})
	mustAdd(t, c, [][]api.Point{box(-500, 0, -400, 256), box(320, 0, 400, 256), box(0, -9, 300, 0), box(0, 256, 300, 300)})
	sameColumns(t, "boxes out of the window", c, [][]int{nil, {0, 2}, nil, nil})
	mustAdd(t, c, [][]api.Point{{on(0, 128), on(300, 128)}, {on(3, 3), on(250, 200)}})
	sameColumns(t, "what cancels out", c, [][]int{nil, {0, 2}, nil, nil})
	mustAdd(t, c, [][]api.Point{box(-500, 0, 1000, 30)})
	sameColumns(t, "a box over all columns", c, [][]int{{0}, {0, 2}, nil, nil})
	if len(c.table.areas) != 0 {
		t.Errorf("P9: store 1 has a table of %d", len(c.table.areas))
	}
	c.Clear()
	sameColumns(t, "Clear", c, nothing)
}

// TestP9RowsInOrder: the cells of a row stand in order, none of them twice, none empty.
func TestP9RowsInOrder(t *testing.T) {
	r := rand.New(rand.NewSource(9))
	for round := 0; round < 20; round++ {
		c := canvasOf(t, 9, 6, byRow)
		for k := 0; k < 30; k++ {
			some := func() int { return r.Intn(700) - 60 }
			mustAdd(t, c, [][]api.Point{{on(some(), some()), on(some(), some()), on(some(), some())}})
			for j, row := range c.rows.cells {
				for i, x := range row {
					if x.column < 0 || x.column > 8 || i > 0 && row[i-1].column >= x.column || x.here == 0 && x.right == 0 {
						t.Fatalf("P9: row %d has the cells %v", j, row)
					}
				}
			}
		}
	}
}
