// Package chord: segments that become chords, and chords that are cut where they leave a pixel.
package chord

import (
	"glyph/api"
	"glyph/place"
	"glyph/whole"
)

// Curve tells the spots through which the chords of a segment go, its ends with them (P6).
func Curve(g api.Segment) ([]api.Spot, api.Errno) {
	if g.Kind != api.Line && g.Kind != api.Quad && g.Kind != api.Cubic {
		return nil, api.ErrShape
	}
	if !inRange(g) {
		return nil, api.ErrRange
	}
	var l []api.Spot
	n := chords(g)
	for i := 0; i <= n; i++ {
		s := spotOf(g, i, n)
		l = append(l, s)
	}
	return l, api.OK
}

// inRange tells whether all spots that the kind of a segment has are in range.
func inRange(g api.Segment) bool {
	ends := place.InRange(g.From) && place.InRange(g.To)
	switch g.Kind {
	case api.Quad:
		return ends && place.InRange(g.First)
	case api.Cubic:
		return ends && place.InRange(g.First) && place.InRange(g.Second)
	}
	return ends
}

// chords tells how many chords a segment needs: the more it bends, the more.
func chords(g api.Segment) int {
	need := 0
	switch g.Kind {
	case api.Quad:
		need = bend(g.From, g.First, g.To)
	case api.Cubic:
		early := bend(g.From, g.First, g.Second)
		late := bend(g.First, g.Second, g.To)
		need = 3 * whole.Greater(early, late)
	}
	// Of spots in range no bend is more than 4 times MaxPlace: the loop ends at 111.
	n := 1
	for 16*n*n < need {
		n++
	}
	return n
}

// bend tells how far three spots are from standing evenly on a straight line.
func bend(a api.Spot, b api.Spot, c api.Spot) int {
	x := whole.Size(a.X - 2*b.X + c.X)
	y := whole.Size(a.Y - 2*b.Y + c.Y)
	return whole.Greater(x, y)
}

// spotOf tells spot i of a segment of n chords.
func spotOf(g api.Segment, i int, n int) api.Spot {
	var s api.Spot
	switch g.Kind {
	case api.Quad:
		s.X = quadAt(g.From.X, g.First.X, g.To.X, i, n)
		s.Y = quadAt(g.From.Y, g.First.Y, g.To.Y, i, n)
	case api.Cubic:
		s.X = cubicAt(g.From.X, g.First.X, g.Second.X, g.To.X, i, n)
		s.Y = cubicAt(g.From.Y, g.First.Y, g.Second.Y, g.To.Y, i, n)
	default:
		s = g.From
		if i == n {
			s = g.To
		}
	}
	return s
}

func quadAt(from int, first int, to int, i int, n int) int {
	k := n - i
	sum := k*k*from + 2*i*k*first + i*i*to
	return int(whole.HalfUp(int64(sum), int64(n*n)))
}

func cubicAt(from int, first int, second int, to int, i int, n int) int {
	k := n - i
	// The weights have at most 21 bits, but with a coordinate they outgrow 32.
	sum := int64(k*k*k)*int64(from) + int64(3*i*k*k)*int64(first)
	sum += int64(3*i*i*k)*int64(second) + int64(i*i*i)*int64(to)
	return int(whole.HalfUp(sum, int64(n*n*n)))
}
