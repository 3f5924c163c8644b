// Package canvas: windows on which the areas of outlines add up, and the pictures that these make.
package canvas

import (
	"glyph/api"
	"glyph/chord"
	"glyph/picture"
)

// The stores: how a canvas keeps its sums.
const (
	asTable = 0
	byRow   = 1
)

// Canvas is a window with the sums of what it took. Of its two stores only the one that was asked
// for is in use.
type Canvas struct {
	w, h  int
	store int
	taken int
	table table
	rows  rows
}

// New makes a canvas with no outline on it (P9).
func New(w int, h int, store int) (Canvas, api.Errno) {
	if !picture.IsSide(w) || !picture.IsSide(h) || store != asTable && store != byRow {
		return Canvas{}, api.ErrSize
	}
	c := Canvas{w: w, h: h, store: store}
	c.Clear()
	return c, api.OK
}

// Clear makes the canvas empty (P10).
func (c *Canvas) Clear() {
	c.taken = 0
	if c.store == byRow {
		c.rows = newRows(c.h)
		return
	}
	c.table = newTable(c.w, c.h)
}

// Taken tells how many outlines the canvas took (P10).
func (c *Canvas) Taken() int {
	return c.taken
}

// Add lays an outline on the canvas (P10).
func (c *Canvas) Add(o [][]api.Point, m api.Map) api.Errno {
	return c.lay(o, m, 1)
}

// Take takes an outline away from the canvas (P10).
func (c *Canvas) Take(o [][]api.Point, m api.Map) api.Errno {
	return c.lay(o, m, -1)
}

// lay takes an outline whose areas count so many times.
func (c *Canvas) lay(o [][]api.Point, m api.Map, times int) api.Errno {
	rings, e := chord.Trace(o, m)
	if e != api.OK {
		return e
	}
	if c.taken >= api.MaxAdds {
		return api.ErrFull
	}
	for _, ring := range rings {
		c.layRing(ring, times)
	}
	c.rows.tidy()
	c.taken++
	return api.OK
}

func (c *Canvas) layRing(ring []api.Spot, times int) {
	for i, from := range ring {
		to := ring[0]
		if i+1 < len(ring) {
			to = ring[i+1]
		}
		c.layChord(from, to, times)
	}
}

// layChord adds what the pieces of a chord count for. (Cuts never refuses here: Trace brings all
// spots in range.)
func (c *Canvas) layChord(a api.Spot, b api.Spot, times int) {
	spots, e := chord.Cuts(a, b)
	if e != api.OK {
		return
	}
	from := a
	for _, to := range spots {
		c.layPiece(from, to, times)
		from = to
	}
}

// layPiece adds what one piece counts for, if that is anything in the window.
func (c *Canvas) layPiece(a api.Spot, b api.Spot, times int) {
	// A level piece has no height; one that begins above the window lies above it with all its length.
	if a.Y == b.Y || a.Y < 0 || b.Y < 0 {
		return
	}
	s := shareOf(a, b, times)
	if s.row >= c.h || s.column >= c.w {
		return
	}
	if c.store == byRow {
		c.rows.add(s)
		return
	}
	c.table.add(s)
}

// Area tells the area of a pixel (P11).
func (c *Canvas) Area(x int, y int) (int, api.Errno) {
	if x < 0 || x >= c.w || y < 0 || y >= c.h {
		return 0, api.ErrRange
	}
	return c.areaOf(x, y), api.OK
}

// areaOf tells the area of a pixel that is in the window.
func (c *Canvas) areaOf(x int, y int) int {
	if c.store == byRow {
		return c.rows.area(x, y)
	}
	return c.table.area(x, y)
}
