// Package place: how points come to their places on the window.
package place

import (
	"glyph/api"
	"glyph/whole"
)

// unit is what a map's scale is divided by: 1024 stands for one to one, and the numbers are doubled.
const unit = 2048

// Place tells where a point, in doubled numbers, comes by the map m (P5).
func Place(m api.Map, s api.Spot) (api.Spot, api.Errno) {
	if !whole.Within(s.X, 2*api.MaxCoord) || !whole.Within(s.Y, 2*api.MaxCoord) {
		return api.Spot{}, api.ErrCoord
	}
	if !Fair(m) {
		return api.Spot{}, api.ErrMap
	}
	var p api.Spot
	p.X = m.DX + scaled(m.XX*s.X+m.XY*s.Y)
	p.Y = m.DY + scaled(m.YX*s.X+m.YY*s.Y)
	if !InRange(p) {
		return api.Spot{}, api.ErrRange
	}
	return p, api.OK
}

func scaled(n int) int {
	return int(whole.HalfUp(int64(n), unit))
}

// Fair tells whether the numbers of a map are such as may be.
func Fair(m api.Map) bool {
	across := whole.Within(m.XX, api.MaxScale) && whole.Within(m.XY, api.MaxScale)
	down := whole.Within(m.YX, api.MaxScale) && whole.Within(m.YY, api.MaxScale)
	shift := whole.Within(m.DX, api.MaxPlace) && whole.Within(m.DY, api.MaxPlace)
	return across && down && shift
}

// InRange tells whether a place is not too far out.
func InRange(s api.Spot) bool {
	return whole.Within(s.X, api.MaxPlace) && whole.Within(s.Y, api.MaxPlace)
}
