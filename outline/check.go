// Package outline: contours of points, and the segments of which they are made.
package outline

import (
	"glyph/api"
	"glyph/whole"
)

// none is the answer of a search that found nothing.
const none = -1

// Check tells whether contours are an outline (P3), and if not, the contour and the point at fault.
func Check(o [][]api.Point) (api.Errno, int, int) {
	if tooMany(o) {
		return api.ErrMany, 0, 0
	}
	// The shape of all contours goes before the coordinates of any.
	for i, c := range o {
		k := shapeFault(c)
		if k != none {
			return api.ErrShape, i, k
		}
	}
	for i, c := range o {
		k := firstFar(c)
		if k != none {
			return api.ErrCoord, i, k
		}
	}
	return api.OK, 0, 0
}

func tooMany(o [][]api.Point) bool {
	if len(o) > api.MaxContours {
		return true
	}
	left := api.MaxPoints
	for _, c := range o {
		if len(c) > left {
			return true
		}
		left -= len(c)
	}
	return false
}

// shapeFault tells what Check names of a contour that is misshapen: how many points it has, if they
// are too few to be a ring, else the first point that may not stand where it stands.
func shapeFault(c []api.Point) int {
	if len(c) < 2 {
		return len(c)
	}
	ahead := c[len(c)-1]
	for i, p := range c {
		behind := c[0]
		if i+1 < len(c) {
			behind = c[i+1]
		}
		if !mayStand(ahead.Kind, p.Kind, behind.Kind) {
			return i
		}
		ahead = p
	}
	return none
}

// mayStand tells whether a point of a kind may stand between neighbours of two other kinds.
func mayStand(ahead int, kind int, behind int) bool {
	switch kind {
	case api.On, api.Quad:
		return true
	case api.Cubic:
		return ahead == api.On && behind == api.Cubic || ahead == api.Cubic && behind == api.On
	}
	return false
}

func firstFar(c []api.Point) int {
	for i, p := range c {
		if !whole.Within(p.X, api.MaxCoord) || !whole.Within(p.Y, api.MaxCoord) {
			return i
		}
	}
	return none
}
