package canvas

import (
	"glyph/api"
	"glyph/whole"
)

// share is what a piece counts for in its row: so much in the pixel in which it lies, so much in each
// one to the right of that, and nothing in those to the left.
type share struct {
	row, column int
	here, right int
}

// shareOf tells the share, so many times, of the piece from a to b, which lies in one pixel, in a row
// from 0 on.
func shareOf(a api.Spot, b api.Spot, times int) share {
	// To the left of the window a piece counts as on the window's left border: in each pixel with all
	// its height.
	from := whole.Greater(a.X, 0)
	to := whole.Greater(b.X, 0)
	column := whole.Lesser(from, to) / api.Pixel
	border := column*api.Pixel + api.Pixel
	height := times * (b.Y - a.Y)
	return share{
		row:    whole.Lesser(a.Y, b.Y) / api.Pixel,
		column: column,
		here:   height * (border - from + border - to),
		right:  height * 2 * api.Pixel,
	}
}
