package glyph_test

import (
	"testing"

	"glyph/api"
	"glyph/glyph"
)

type checked struct {
	name string
	o    [][]api.Point
	e    api.Errno
	a, b int
}

func runChecks(t *testing.T, l []checked) {
	t.Helper()
	for _, x := range l {
		if e, a, b := glyph.Check(x.o); e != x.e || a != x.a || b != x.b {
			t.Errorf("P3: Check, %s = %d, %d, %d, want %d, %d, %d", x.name, e, a, b, x.e, x.a, x.b)
		}
	}
}

func TestP3Examples(t *testing.T) {
	runChecks(t, []checked{
		{"a lone Cubic", [][]api.Point{{on(0, 0), cubic(8, 0), on(8, 8)}}, api.ErrShape, 0, 1},
		{"two Cubic", [][]api.Point{{on(0, 0), cubic(8, 0), cubic(8, 8)}}, api.OK, 0, 0},
		{"a contour of one point", [][]api.Point{{on(0, 0), on(1, 1)}, {on(0, 0)}}, api.ErrShape, 1, 1},
		{"a point too far out", [][]api.Point{{on(0, 0), on(5000, 0)}}, api.ErrCoord, 0, 1},
	})
}

func TestP3TooMany(t *testing.T) {
	n := func(k int) []api.Point { return make([]api.Point, k) }
	wrong := []api.Point{{X: top, Kind: 9}}
	var sixteen, seventeen [][]api.Point
	for i := 0; i < 17; i++ {
		sixteen = seventeen
		seventeen = append(seventeen, n(2))
	}
	huge := n(1 << 20)
	var heaps [][]api.Point
	for i := 0; i < 16; i++ {
		heaps = append(heaps, huge)
	}
	runChecks(t, []checked{
		{"no list", nil, api.OK, 0, 0},
		{"no contour", [][]api.Point{}, api.OK, 0, 0},
		{"16 contours", sixteen, api.OK, 0, 0},
		{"17 contours", seventeen, api.ErrMany, 0, 0},
		{"16 contours without points", make([][]api.Point, 16), api.ErrShape, 0, 0},
		{"17 contours without points", make([][]api.Point, 17), api.ErrMany, 0, 0},
		{"200 points", [][]api.Point{n(200)}, api.OK, 0, 0},
		{"201 points", [][]api.Point{n(201)}, api.ErrMany, 0, 0},
		{"200 points in parts", [][]api.Point{n(100), n(98), n(2)}, api.OK, 0, 0},
		{"201 points in parts", [][]api.Point{n(100), n(99), n(2)}, api.ErrMany, 0, 0},
		{"200 points and none", [][]api.Point{n(200), nil}, api.ErrShape, 1, 0},
		{"too many and wrong", [][]api.Point{wrong, n(200)}, api.ErrMany, 0, 0},
		{"far too many", heaps, api.ErrMany, 0, 0},
	})
}

// mayNot: as P3 says it, of point i of a ring.
func mayNot(kinds []int, i int) bool {
	n := len(kinds)
	k, a, b := kinds[i], kinds[(i+n-1)%n], kinds[(i+1)%n]
	if k != api.Cubic {
		return k != api.On && k != api.Quad
	}
	oneEach := a == api.Cubic && b == api.On || b == api.Cubic && a == api.On
	return !oneEach
}

func TestP3AllShortRings(t *testing.T) {
	for n := 2; n <= 6; n++ {
		for _, kinds := range kindLists(n, []int{0, 1, 2, 3}) {
			want, first := api.OK, 0
			for i := n - 1; i >= 0; i-- {
				if mayNot(kinds, i) {
					want, first = api.ErrShape, i
				}
			}
			e, a, b := glyph.Check([][]api.Point{contourOf(kinds)})
			if e != want || a != 0 || b != first {
				t.Fatalf("P3: Check of the kinds %v = %d, %d, %d, want %d, 0, %d", kinds, e, a, b, want, first)
			}
		}
	}
}

func TestP3Shape(t *testing.T) {
	fair := []api.Point{on(0, 0), on(1, 1)}
	for _, k := range []int{-1, 3, top, bottom} {
		odd := api.Point{Kind: k}
		runChecks(t, []checked{
			{"a kind that is none", [][]api.Point{fair, {on(0, 0), odd}}, api.ErrShape, 1, 1},
			{"a lone point of such a kind", [][]api.Point{{odd}}, api.ErrShape, 0, 1},
			{"a Cubic beside such a kind", [][]api.Point{{on(0, 0), cubic(0, 0), odd}}, api.ErrShape, 0, 1},
		})
	}
	runChecks(t, []checked{
		{"nil", [][]api.Point{fair, nil}, api.ErrShape, 1, 0},
		{"empty", [][]api.Point{fair, fair, {}}, api.ErrShape, 2, 0},
		{"the first of two contours", [][]api.Point{fair, {on(0, 0)}, {}}, api.ErrShape, 1, 1},
		{"a Cubic over the ring's end", [][]api.Point{{cubic(0, 0), on(0, 0), cubic(0, 0)}}, api.OK, 0, 0},
		{"a Cubic pair in a ring of two", [][]api.Point{{cubic(0, 0), cubic(0, 0)}}, api.ErrShape, 0, 0},
	})
}

func TestP3Coord(t *testing.T) {
	for _, v := range []int{4097, -4097, top, bottom} {
		runChecks(t, []checked{
			{"X", [][]api.Point{{on(v, 0), on(0, 0)}}, api.ErrCoord, 0, 0},
			{"Y", [][]api.Point{{on(0, 0), on(0, v)}}, api.ErrCoord, 0, 1},
			{"of a Quad", [][]api.Point{{on(0, 0), on(0, 0), quad(0, v)}}, api.ErrCoord, 0, 2},
			{"of a Cubic", [][]api.Point{{on(0, 0), cubic(0, 0), cubic(v, 0)}}, api.ErrCoord, 0, 2},
			{"the first of some", [][]api.Point{{on(0, 0), on(0, 0)}, {on(0, 0), on(v, 0), on(0, v)}, {on(v, v), on(v, v)}}, api.ErrCoord, 1, 1},
			{"behind a shape", [][]api.Point{{on(v, v), on(v, v)}, {on(0, 0)}}, api.ErrShape, 1, 1},
			{"of a misshapen point", [][]api.Point{{on(0, 0), {X: v, Kind: 3}}}, api.ErrShape, 0, 1},
		})
	}
	runChecks(t, []checked{
		{"at the edge", [][]api.Point{{on(4096, -4096), quad(-4096, 4096)}}, api.OK, 0, 0},
	})
}
