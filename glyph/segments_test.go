package glyph_test

import (
	"testing"

	"glyph/api"
	"glyph/glyph"
)

func TestP4Segments(t *testing.T) {
	for _, x := range []struct {
		name string
		o    [][]api.Point
		want []api.Segment
	}{
		{"nothing", nil, nil},
		{"example 2", [][]api.Point{{on(0, 0), quad(10, 0), quad(10, 11), on(0, 11)}}, []api.Segment{
			curve2(at(0, 0), at(20, 0), at(20, 11)),
			curve2(at(20, 11), at(20, 22), at(0, 22)),
			line(at(0, 22), at(0, 0))}},
		{"example 3", [][]api.Point{{quad(0, 0), quad(4, 6)}}, []api.Segment{
			curve2(at(4, 6), at(8, 12), at(4, 6)),
			curve2(at(4, 6), at(0, 0), at(4, 6))}},
		{"two On", [][]api.Point{{on(1, 2), on(-3, 4)}}, []api.Segment{
			line(at(2, 4), at(-6, 8)),
			line(at(-6, 8), at(2, 4))}},
		{"one On and a Quad", [][]api.Point{{quad(5, -5), on(1, 2)}}, []api.Segment{
			curve2(at(2, 4), at(10, -10), at(2, 4))}},
		{"one On and two Cubic", [][]api.Point{{cubic(1, 2), cubic(3, 4), on(5, 6)}}, []api.Segment{
			curve3(at(10, 12), at(2, 4), at(6, 8), at(10, 12))}},
		{"Cubic over the ring's end", [][]api.Point{{cubic(1, 2), on(5, 6), cubic(3, 4)}}, []api.Segment{
			curve3(at(10, 12), at(6, 8), at(2, 4), at(10, 12))}},
		{"all kinds", [][]api.Point{{on(0, 0), cubic(1, 0), cubic(2, 1), on(3, 3), quad(4, 4), on(5, 3), on(6, 6)}}, []api.Segment{
			curve3(at(0, 0), at(2, 0), at(4, 2), at(6, 6)),
			curve2(at(6, 6), at(8, 8), at(10, 6)),
			line(at(10, 6), at(12, 12)),
			line(at(12, 12), at(0, 0))}},
		{"implied ahead of the first own On", [][]api.Point{{quad(1, 0), quad(2, 5), on(7, 7)}}, []api.Segment{
			curve2(at(3, 5), at(4, 10), at(14, 14)),
			curve2(at(14, 14), at(2, 0), at(3, 5))}},
		{"implied at the ring's end comes last", [][]api.Point{{quad(-1, 0), on(7, 7), quad(2, -6)}}, []api.Segment{
			curve2(at(14, 14), at(4, -12), at(1, -6)),
			curve2(at(1, -6), at(-2, 0), at(14, 14))}},
		{"odd sums below nought", [][]api.Point{{quad(-1, -2), quad(-2, -5), quad(0, 0)}}, []api.Segment{
			curve2(at(-3, -7), at(-4, -10), at(-2, -5)),
			curve2(at(-2, -5), at(0, 0), at(-1, -2)),
			curve2(at(-1, -2), at(-2, -4), at(-3, -7))}},
		{"the contours' order", [][]api.Point{{on(9, 9), quad(3, 5)}, {on(1, 0), on(4, 0)}}, []api.Segment{
			curve2(at(18, 18), at(6, 10), at(18, 18)),
			line(at(2, 0), at(8, 0)),
			line(at(8, 0), at(2, 0))}},
		{"the edge of the coordinates", [][]api.Point{{quad(4096, -4096), quad(4096, -4096)}}, []api.Segment{
			curve2(at(8192, -8192), at(8192, -8192), at(8192, -8192)),
			curve2(at(8192, -8192), at(8192, -8192), at(8192, -8192))}},
	} {
		if l, e := glyph.Segments(x.o); e != api.OK || !sameSegments(l, x.want) {
			t.Errorf("P4: Segments, %s = %v, %d, want %v, 0", x.name, l, e, x.want)
		}
	}
}

// stop: an On point of a ring, the contour's own or an implied one, and the contour's point behind it.
type stop struct {
	s    api.Spot
	next int
}

func stops(c []api.Point) []stop {
	var l []stop
	for i, p := range c {
		q := c[(i+1)%len(c)]
		if p.Kind == api.On {
			l = append(l, stop{at(p.X+p.X, p.Y+p.Y), i + 1})
		}
		if p.Kind == api.Quad && q.Kind == api.Quad {
			l = append(l, stop{at(p.X+q.X, p.Y+q.Y), i + 1})
		}
	}
	return l
}

// wanted: the segments of a well shaped ring, told by the kind of the point behind each stop.
func wanted(c []api.Point) []api.Segment {
	twice := func(i int) api.Spot { p := c[i%len(c)]; return at(2*p.X, 2*p.Y) }
	l := stops(c)
	var all []api.Segment
	for i, s := range l {
		to := l[(i+1)%len(l)].s
		switch c[s.next%len(c)].Kind {
		case api.On:
			all = append(all, line(s.s, to))
		case api.Quad:
			all = append(all, curve2(s.s, twice(s.next), to))
		case api.Cubic:
			all = append(all, curve3(s.s, twice(s.next), twice(s.next+1), to))
		}
	}
	return all
}

func TestP4AllShortRings(t *testing.T) {
	lone := []api.Point{on(100, 200), quad(300, 400)}
	for n := 2; n <= 8; n++ {
		for _, kinds := range kindLists(n, []int{api.On, api.Quad, api.Cubic}) {
			c := contourOf(kinds)
			want := api.OK
			var segments []api.Segment
			for i := range kinds {
				if mayNot(kinds, i) {
					want = api.ErrShape
				}
			}
			if want == api.OK {
				segments = append(append(wanted(lone), wanted(c)...), wanted(lone)...)
			}
			l, e := glyph.Segments([][]api.Point{lone, c, lone})
			if e != want || !sameSegments(l, segments) {
				t.Fatalf("P4: Segments of the kinds %v = %v, %d, want %v, %d", kinds, l, e, segments, want)
			}
		}
	}
}

func TestP4Full(t *testing.T) {
	c := make([]api.Point, 200)
	for i := range c {
		c[i] = quad(i, -i)
	}
	l, e := glyph.Segments([][]api.Point{c})
	if e != api.OK || len(l) != 200 || !sameSegments(l, wanted(c)) {
		t.Errorf("P4: Segments of 200 Quad points: %d of them, %d", len(l), e)
	}
}

func TestP4Errors(t *testing.T) {
	fair := []api.Point{on(0, 0), on(1, 1)}
	for _, x := range []struct {
		o [][]api.Point
		e api.Errno
	}{
		{make([][]api.Point, 17), api.ErrMany},
		{[][]api.Point{make([]api.Point, 201)}, api.ErrMany},
		{[][]api.Point{fair, {on(0, 0)}}, api.ErrShape},
		{[][]api.Point{fair, {on(0, 0), cubic(0, 0)}}, api.ErrShape},
		{[][]api.Point{{on(top, 0), on(0, 0)}, {}}, api.ErrShape},
		{[][]api.Point{fair, {on(0, 0), on(0, bottom)}}, api.ErrCoord},
		{[][]api.Point{fair, {quad(4097, 0), quad(4097, 0)}}, api.ErrCoord},
	} {
		if l, e := glyph.Segments(x.o); e != x.e || len(l) != 0 {
			t.Errorf("P4: Segments = %v, %d, want nothing, %d", l, e, x.e)
		}
	}
}
