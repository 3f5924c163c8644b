package chord

import (
	"glyph/api"
	"glyph/outline"
	"glyph/place"
)

// Trace tells a ring of spots for each contour of an outline that is placed by m (P7).
func Trace(o [][]api.Point, m api.Map) ([][]api.Spot, api.Errno) {
	contours, e := outline.Rings(o)
	if e != api.OK {
		return nil, e
	}
	// An outline without segments asks Place nothing, but its map must be fair too.
	if !place.Fair(m) {
		return nil, api.ErrMap
	}
	var rings [][]api.Spot
	for _, c := range contours {
		ring, refused := ringOf(c, m)
		if refused != api.OK {
			return nil, refused
		}
		rings = append(rings, ring)
	}
	return rings, api.OK
}

// ringOf tells the spots of one contour, whose segments are given.
func ringOf(c []api.Segment, m api.Map) ([]api.Spot, api.Errno) {
	var ring []api.Spot
	for _, g := range c {
		p, e := placed(g, m)
		if e != api.OK {
			return nil, e
		}
		l, e := Curve(p)
		if e != api.OK {
			return nil, e
		}
		for i, s := range l {
			// The last spot is the next segment's first one.
			if i+1 < len(l) {
				ring = append(ring, s)
			}
		}
	}
	return ring, api.OK
}

// placed tells the segment that m makes of g. A control that the kind does not have is nought in g,
// and m, which is fair, brings nought to a place in range: it is never the one that is refused.
func placed(g api.Segment, m api.Map) (api.Segment, api.Errno) {
	from, e1 := place.Place(m, g.From)
	first, e2 := place.Place(m, g.First)
	second, e3 := place.Place(m, g.Second)
	to, e4 := place.Place(m, g.To)
	if e1 != api.OK || e2 != api.OK || e3 != api.OK || e4 != api.OK {
		return api.Segment{}, api.ErrRange
	}
	return api.Segment{Kind: g.Kind, From: from, First: first, Second: second, To: to}, api.OK
}
