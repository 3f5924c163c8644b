package picture

import (
	"glyph/api"
	"glyph/whole"
)

// Lay lays one picture over another (P16).
func Lay(under api.Gray, over api.Gray, x int, y int, way int) (api.Gray, api.Errno) {
	if !isPicture(under) || !isPicture(over) {
		return api.Gray{}, api.ErrGray
	}
	if way != api.Sum && way != api.Most && way != api.Top && way != api.Minus {
		return api.Gray{}, api.ErrWay
	}
	var pix []byte
	for j := 0; j < under.H; j++ {
		for i := 0; i < under.W; i++ {
			b := under.Pix[j*under.W+i]
			if lies(x, over.W, i) && lies(y, over.H, j) {
				v := over.Pix[(j-y)*over.W+i-x]
				b = mixed(b, v, way)
			}
			pix = append(pix, b)
		}
	}
	return api.Gray{W: under.W, H: under.H, Pix: pix}, api.OK
}

// lies tells whether one of so many columns or rows, the first of which lies on column or row
// from, lies on column or row i. (Farther out than a side nothing does, and from + n or i - from
// would overflow.)
func lies(from int, n int, i int) bool {
	return whole.Within(from, api.MaxSide) && i >= from && i-from < n
}

// mixed tells the byte that comes of under's byte and over's byte.
func mixed(under byte, over byte, way int) byte {
	u := int(under)
	v := int(over)
	n := v
	switch way {
	case api.Sum:
		n = whole.Lesser(u+v, 255)
	case api.Most:
		n = whole.Greater(u, v)
	case api.Minus:
		n = whole.Greater(u-v, 0)
	}
	return byte(n)
}
