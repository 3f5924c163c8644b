package canvas

import (
	"glyph/api"
	"glyph/whole"
)

// covered is the area of a pixel that is all covered once.
const covered = 2 * api.Pixel * api.Pixel

// Gray tells the picture of a part of the window (P12).
func (c *Canvas) Gray(x int, y int, w int, h int) (api.Gray, api.Errno) {
	if !isPart(x, w, c.w) || !isPart(y, h, c.h) {
		return api.Gray{}, api.ErrRange
	}
	var pix []byte
	for j := 0; j < h; j++ {
		for i := 0; i < w; i++ {
			b := byteOf(c.areaOf(x+i, y+j))
			pix = append(pix, b)
		}
	}
	return api.Gray{W: w, H: h, Pix: pix}, api.OK
}

// isPart tells whether n columns or rows from one on, at least one, are all among so many.
// (Of wild numbers from + n would overflow.)
func isPart(from int, n int, side int) bool {
	return n >= 1 && n <= side && from >= 0 && from <= side-n
}

// byteOf tells the byte of an area.
func byteOf(area int) byte {
	n := whole.Lesser(whole.Size(area), covered)
	return byte(whole.HalfUp(int64(255*n), covered))
}

// Render tells the picture of one outline (P13).
func Render(o [][]api.Point, m api.Map, w int, h int) (api.Gray, api.Errno) {
	c, e := New(w, h, asTable)
	if e != api.OK {
		return api.Gray{}, e
	}
	e = c.Add(o, m)
	if e != api.OK {
		return api.Gray{}, e
	}
	return c.Gray(0, 0, w, h)
}
