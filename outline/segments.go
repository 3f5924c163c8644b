package outline

import "glyph/api"

// Segments tells the lines and curves of an outline, in doubled numbers (P4).
func Segments(o [][]api.Point) ([]api.Segment, api.Errno) {
	rings, e := Rings(o)
	if e != api.OK {
		return nil, e
	}
	var all []api.Segment
	for _, r := range rings {
		all = append(all, r...)
	}
	return all, api.OK
}

// Rings tells the same segments, but those of each contour in a list of their own.
func Rings(o [][]api.Point) ([][]api.Segment, api.Errno) {
	e, _, _ := Check(o)
	if e != api.OK {
		return nil, e
	}
	var rings [][]api.Segment
	for _, c := range o {
		r := ringSegments(c)
		rings = append(rings, r)
	}
	return rings, api.OK
}

// ringSegments tells the segments of one contour, which Check has found to be well shaped.
func ringSegments(c []api.Point) []api.Segment {
	ring := withImplied(c)
	first := firstOn(ring)
	if first == none {
		return nil
	}
	var l []api.Segment
	g := api.Segment{Kind: api.Line, From: spot(ring[first])}
	i := first
	// As many steps as there are points: the last one comes back to the first On point.
	for range ring {
		i++
		if i == len(ring) {
			i = 0
		}
		p := ring[i]
		if p.Kind == api.On {
			g.To = spot(p)
			l = append(l, g)
			g = api.Segment{Kind: api.Line, From: g.To}
		} else {
			g = withControl(g, p)
		}
	}
	return l
}

// withImplied tells the points of a ring in doubled numbers, the implied On points among them.
// (Halves of whole numbers are not always whole; that is why the numbers are doubled.)
func withImplied(c []api.Point) []api.Point {
	var ring []api.Point
	for i, p := range c {
		ring = append(ring, api.Point{X: 2 * p.X, Y: 2 * p.Y, Kind: p.Kind})
		behind := c[0]
		if i+1 < len(c) {
			behind = c[i+1]
		}
		if p.Kind == api.Quad && behind.Kind == api.Quad {
			ring = append(ring, api.Point{X: p.X + behind.X, Y: p.Y + behind.Y, Kind: api.On})
		}
	}
	return ring
}

func firstOn(ring []api.Point) int {
	for i, p := range ring {
		if p.Kind == api.On {
			return i
		}
	}
	return none
}

// withControl tells the segment g with one more control.
func withControl(g api.Segment, p api.Point) api.Segment {
	// A kind other than Line shows that the first control is there already.
	if g.Kind == api.Line {
		g.Kind = p.Kind
		g.First = spot(p)
	} else {
		g.Second = spot(p)
	}
	return g
}

func spot(p api.Point) api.Spot {
	return api.Spot{X: p.X, Y: p.Y}
}
