// Package picture: gray pictures, as a text and laid one over another.
package picture

import (
	"strconv"

	"glyph/api"
)

// IsSide tells whether a picture, or the window that it shows, may have so many columns or rows.
func IsSide(n int) bool {
	return n >= 1 && n <= api.MaxSide
}

// isPicture tells whether a Gray is a picture. (Its sides come first: of wild ones the product
// would overflow.)
func isPicture(g api.Gray) bool {
	return IsSide(g.W) && IsSide(g.H) && len(g.Pix) == g.W*g.H
}

// Encode writes a picture as a text (P14).
func Encode(g api.Gray) (string, api.Errno) {
	if !isPicture(g) {
		return "", api.ErrGray
	}
	w := strconv.Itoa(g.W)
	h := strconv.Itoa(g.H)
	return mark + "\n" + w + " " + h + "\n" + depth + "\n" + string(g.Pix), api.OK
}
