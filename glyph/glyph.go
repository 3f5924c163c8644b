// Package glyph: outlines of lines and curves, and the gray picture that they make: see DOC.md.
package glyph

import (
	"glyph/api"
	"glyph/canvas"
	"glyph/chord"
	"glyph/outline"
	"glyph/picture"
	"glyph/place"
)

// Canvas is a window on which outlines are laid.
type Canvas struct {
	own canvas.Canvas
}

// Check tells whether contours are an outline (P3).
func Check(o [][]api.Point) (api.Errno, int, int) { return outline.Check(o) }

// Segments tells the lines and curves of an outline (P4).
func Segments(o [][]api.Point) ([]api.Segment, api.Errno) { return outline.Segments(o) }

// Place tells where a point comes (P5).
func Place(m api.Map, s api.Spot) (api.Spot, api.Errno) { return place.Place(m, s) }

// Curve tells the spots through which the chords of a segment go (P6).
func Curve(g api.Segment) ([]api.Spot, api.Errno) { return chord.Curve(g) }

// Trace tells the rings of an outline that has been placed (P7).
func Trace(o [][]api.Point, m api.Map) ([][]api.Spot, api.Errno) { return chord.Trace(o, m) }

// Cuts tells where a chord is cut (P8).
func Cuts(a api.Spot, b api.Spot) ([]api.Spot, api.Errno) { return chord.Cuts(a, b) }

// New makes a canvas (P9).
func New(w int, h int, store int) (*Canvas, api.Errno) {
	own, e := canvas.New(w, h, store)
	if e != api.OK {
		return nil, e
	}
	return &Canvas{own: own}, api.OK
}

// Add lays an outline on the canvas (P10).
func (c *Canvas) Add(o [][]api.Point, m api.Map) api.Errno { return c.own.Add(o, m) }

// Take takes an outline away from the canvas (P10).
func (c *Canvas) Take(o [][]api.Point, m api.Map) api.Errno { return c.own.Take(o, m) }

// Clear makes the canvas empty (P10).
func (c *Canvas) Clear() { c.own.Clear() }

// Taken tells how many outlines the canvas took (P10).
func (c *Canvas) Taken() int { return c.own.Taken() }

// Area tells the area of a pixel (P11).
func (c *Canvas) Area(x int, y int) (int, api.Errno) { return c.own.Area(x, y) }

// Gray tells the picture of a part of the window (P12).
func (c *Canvas) Gray(x int, y int, w int, h int) (api.Gray, api.Errno) {
	return c.own.Gray(x, y, w, h)
}

// Render tells the picture of one outline (P13).
func Render(o [][]api.Point, m api.Map, w int, h int) (api.Gray, api.Errno) {
	return canvas.Render(o, m, w, h)
}

// Encode writes a picture as a text (P14).
func Encode(g api.Gray) (string, api.Errno) { return picture.Encode(g) }

// Decode reads a picture from a text (P15).
func Decode(s string) (api.Gray, api.Errno) { return picture.Decode(s) }

// Lay lays one picture over another (P16).
func Lay(under api.Gray, over api.Gray, x int, y int, way int) (api.Gray, api.Errno) {
	return picture.Lay(under, over, x, y, way)
}
