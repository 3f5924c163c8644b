package glyph_test

import (
	"slices"

	"glyph/api"
)

const (
	top    = 1<<63 - 1
	bottom = -1 << 63
)

func on(x, y int) api.Point    { return api.Point{X: x, Y: y, Kind: api.On} }
func quad(x, y int) api.Point  { return api.Point{X: x, Y: y, Kind: api.Quad} }
func cubic(x, y int) api.Point { return api.Point{X: x, Y: y, Kind: api.Cubic} }
func at(x, y int) api.Spot     { return api.Spot{X: x, Y: y} }

func line(a, b api.Spot) api.Segment {
	return api.Segment{Kind: api.Line, From: a, To: b}
}

func curve2(a, c, b api.Spot) api.Segment {
	return api.Segment{Kind: api.Quad, From: a, First: c, To: b}
}

func curve3(a, c, d, b api.Spot) api.Segment {
	return api.Segment{Kind: api.Cubic, From: a, First: c, Second: d, To: b}
}

// contourOf: a contour of points with these kinds, each at coordinates of its own.
func contourOf(kinds []int) []api.Point {
	c := make([]api.Point, len(kinds))
	for i, k := range kinds {
		c[i] = api.Point{X: 7*i*i - 5*i + 1, Y: 11*i - 3*i*i - 4, Kind: k}
	}
	return c
}

// kindLists: all lists of n kinds out of some.
func kindLists(n int, some []int) [][]int {
	all := [][]int{nil}
	for ; n > 0; n-- {
		var longer [][]int
		for _, l := range all {
			for _, k := range some {
				longer = append(longer, append(append([]int(nil), l...), k))
			}
		}
		all = longer
	}
	return all
}

func sameSegments(a, b []api.Segment) bool { return slices.Equal(a, b) }
func sameSpots(a, b []api.Spot) bool       { return slices.Equal(a, b) }
func sameRings(a, b [][]api.Spot) bool     { return slices.EqualFunc(a, b, sameSpots) }
