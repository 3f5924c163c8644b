package glyph_test

import (
	"math/rand"
	"testing"

	"glyph/api"
	"glyph/glyph"
)

var (
	huge   = api.Map{XX: 65536, YY: 65536}
	unfair = api.Map{XX: 65537}
)

func TestP7Trace(t *testing.T) {
	slant := api.Map{XX: 512, XY: 1024, YX: -1024, YY: 256, DX: 30, DY: -40}
	for _, x := range []struct {
		name string
		o    [][]api.Point
		m    api.Map
		want [][]api.Spot
	}{
		{"nothing", nil, plain, nil},
		{"a Line back and forth", [][]api.Point{{on(1, 2), on(3, 4)}}, plain, [][]api.Spot{{at(1, 2), at(3, 4)}}},
		{"points on one spot", [][]api.Point{{on(1, 1), on(1, 1), on(9, 1)}}, plain, [][]api.Spot{{at(1, 1), at(1, 1), at(9, 1)}}},
		{"an implied point is placed unrounded", [][]api.Point{{on(0, 0), quad(10, 0), quad(10, 11), on(0, 11)}}, plain,
			[][]api.Spot{{at(0, 0), at(10, 6), at(0, 11)}}},
		{"the same, twice as large", [][]api.Point{{on(0, 0), quad(10, 0), quad(10, 11), on(0, 11)}}, api.Map{XX: 2048, YY: 2048},
			[][]api.Spot{{at(0, 0), at(15, 3), at(20, 11), at(15, 19), at(0, 22)}}},
		{"a Cubic", [][]api.Point{{on(0, 0), cubic(0, 64), cubic(64, 64), on(64, 0)}}, plain,
			[][]api.Spot{{at(0, 0), at(10, 36), at(32, 48), at(54, 36), at(64, 0)}}},
		{"a ring that begins at its second point", [][]api.Point{{quad(64, 0), on(64, 64), on(0, 0)}}, plain,
			[][]api.Spot{{at(64, 64), at(0, 0), at(48, 16)}}},
		{"one On point alone", [][]api.Point{{on(0, 0), quad(9, 0)}}, plain, [][]api.Spot{{at(0, 0), at(5, 0)}}},
		{"a map that turns and shifts", [][]api.Point{{on(0, 0), on(10, 0), on(10, 10)}}, slant,
			[][]api.Spot{{at(30, -40), at(35, -50), at(45, -47)}}},
		{"two contours", [][]api.Point{{on(0, 0), on(4, 4)}, {on(1, 1), quad(9, 1)}}, plain,
			[][]api.Spot{{at(0, 0), at(4, 4)}, {at(1, 1)}}},
		{"all on one spot", [][]api.Point{{on(100, 0), quad(4096, 4096), on(7, 7)}}, api.Map{DX: 5, DY: -6}, [][]api.Spot{{at(5, -6), at(5, -6)}}},
	} {
		if l, e := glyph.Trace(x.o, x.m); e != api.OK || !sameRings(l, x.want) {
			t.Errorf("P7: Trace, %s = %v, %d, want %v, 0", x.name, l, e, x.want)
		}
	}
}

// placeWanted: where a map brings a doubled spot, and whether that is in range.
func placeWanted(m api.Map, s api.Spot) (api.Spot, bool) {
	p := at(byRule(m.DX, m.XX, s.X, m.XY, s.Y), byRule(m.DY, m.YX, s.X, m.YY, s.Y))
	return p, size(p.X) <= 16384 && size(p.Y) <= 16384
}

// ringWanted: the ring of one well shaped contour; false, if a spot that it has comes too far out.
func ringWanted(c []api.Point, m api.Map) ([]api.Spot, bool) {
	var ring []api.Spot
	fair := true
	for _, g := range wanted(c) {
		p := api.Segment{Kind: g.Kind}
		for k, s := range spotsOf(&g) {
			if k == 1 && g.Kind == api.Line || k == 2 && g.Kind != api.Cubic {
				continue
			}
			q, near := placeWanted(m, *s)
			*spotsOf(&p)[k] = q
			fair = fair && near
		}
		if fair {
			l := curveWanted(p)
			ring = append(ring, l[:len(l)-1]...)
		}
	}
	return ring, fair
}

func traceWanted(o [][]api.Point, m api.Map) ([][]api.Spot, api.Errno) {
	var rings [][]api.Spot
	for _, c := range o {
		ring, fair := ringWanted(c, m)
		if !fair {
			return nil, api.ErrRange
		}
		rings = append(rings, ring)
	}
	return rings, api.OK
}

func checkTrace(t *testing.T, o [][]api.Point, m api.Map) api.Errno {
	t.Helper()
	want, f := traceWanted(o, m)
	l, e := glyph.Trace(o, m)
	if e != f || !sameRings(l, want) {
		t.Fatalf("P7: Trace(%v, %v) = %v, %d, want %v, %d", o, m, l, e, want, f)
	}
	return e
}

func TestP7AllShortRings(t *testing.T) {
	m := api.Map{XX: 1500, XY: -300, YX: 77, YY: 2100, DX: 11, DY: -500}
	lone := []api.Point{on(100, 200), quad(300, 400)}
	for n := 2; n <= 6; n++ {
		for _, kinds := range kindLists(n, []int{api.On, api.Quad, api.Cubic}) {
			c := contourOf(kinds)
			if e, _, _ := glyph.Check([][]api.Point{c}); e == api.OK {
				checkTrace(t, [][]api.Point{c, lone, c}, m)
			}
		}
	}
}

// TestP7ByRule: drawn outlines on drawn maps, of which some come too far out.
func TestP7ByRule(t *testing.T) {
	r := rand.New(rand.NewSource(7))
	some := func(w int) int { return r.Intn(2*w+1) - w }
	seen := make([]int, 11)
	for i := 0; i < 600; i++ {
		var o [][]api.Point
		for k := r.Intn(4); k >= 0; k-- {
			c := contourOf([][]int{{0, 0}, {1, 1, 1}, {0, 2, 2}, {2, 0, 1, 1, 0, 2}, {1, 0}}[r.Intn(5)])
			for j := range c {
				c[j].X, c[j].Y = some(4096), some(4096)
			}
			o = append(o, c)
		}
		w := []int{1, 200, 4096, 6000, 65536}[i%5]
		m := api.Map{XX: some(w), XY: some(w), YX: some(w), YY: some(w), DX: some(300), DY: some(300)}
		seen[checkTrace(t, o, m)]++
	}
	if seen[api.OK] < 100 || seen[api.ErrRange] < 100 {
		t.Errorf("P7: drawn too one-sidedly: %v", seen)
	}
}

func TestP7Full(t *testing.T) {
	c := make([]api.Point, 200)
	for i := range c {
		c[i] = quad(256-512*(i/2%2), 256-512*(i%2))
	}
	if e := checkTrace(t, [][]api.Point{c}, huge); e != api.OK {
		t.Errorf("P7: Trace of 200 Quad points = %d", e)
	}
	var o [][]api.Point
	for i := 0; i < 16; i++ {
		o = append(o, []api.Point{on(i, -i), on(-i, i), quad(i, 2*i)})
	}
	if e := checkTrace(t, o, huge); e != api.OK {
		t.Errorf("P7: Trace of 16 contours = %d", e)
	}
}

// TestP7Range: each spot that a segment has may be the one that is refused, and no other.
func TestP7Range(t *testing.T) {
	fair := []api.Point{on(256, 256), on(-256, -256)}
	for _, c := range [][]api.Point{
		{on(0, 0), on(0, 0)},
		{on(0, 0), quad(0, 0)},
		{on(0, 0), cubic(0, 0), cubic(0, 0)},
	} {
		for k := range c {
			for _, p := range []api.Spot{at(257, 0), at(-257, 0), at(0, 257), at(0, -257)} {
				odd := append([]api.Point(nil), c...)
				odd[k].X, odd[k].Y = p.X, p.Y
				for _, o := range [][][]api.Point{{odd}, {fair, odd}, {odd, fair}} {
					if l, e := glyph.Trace(o, huge); e != api.ErrRange || len(l) != 0 {
						t.Errorf("P7: Trace(%v) = %v, %d, want ErrRange", o, l, e)
					}
				}
			}
		}
	}
	if e := checkTrace(t, [][]api.Point{fair}, huge); e != api.OK {
		t.Errorf("P7: Trace at the edge of the range = %d", e)
	}
	// The control is out of range, though the curve is not.
	if e := checkTrace(t, [][]api.Point{{on(0, 0), quad(300, 0)}}, huge); e != api.ErrRange {
		t.Errorf("P7: Trace with a control out of range = %d", e)
	}
	if e := checkTrace(t, [][]api.Point{{on(5, 5), on(9, 9)}}, api.Map{DX: 16384, DY: -16384}); e != api.OK {
		t.Errorf("P7: Trace at the edge of the shift = %d", e)
	}
}

func TestP7Errors(t *testing.T) {
	fair := []api.Point{on(0, 0), on(1, 1)}
	for _, x := range []struct {
		name string
		o    [][]api.Point
		m    api.Map
		e    api.Errno
	}{
		{"no outline, no map", nil, unfair, api.ErrMap},
		{"an outline, no map", [][]api.Point{fair}, unfair, api.ErrMap},
		{"out of range, no map", [][]api.Point{{on(4096, 0), on(0, 0)}}, unfair, api.ErrMap},
		{"too many contours", make([][]api.Point, 17), unfair, api.ErrMany},
		{"too many points", [][]api.Point{make([]api.Point, 201)}, unfair, api.ErrMany},
		{"a contour of one point", [][]api.Point{fair, {on(0, 0)}}, unfair, api.ErrShape},
		{"a lone Cubic", [][]api.Point{{on(0, 0), cubic(0, 0)}}, plain, api.ErrShape},
		{"a kind that is none", [][]api.Point{{on(0, 0), {Kind: 3}}}, plain, api.ErrShape},
		{"a coordinate too far out", [][]api.Point{fair, {on(0, 0), on(0, 4097)}}, unfair, api.ErrCoord},
		{"a coordinate far too far out", [][]api.Point{fair, {on(bottom, 0), on(0, top)}}, plain, api.ErrCoord},
		{"shape behind coordinate and range", [][]api.Point{{on(4096, 0), on(0, 4097)}, nil}, huge, api.ErrShape},
		{"coordinate behind range", [][]api.Point{{on(4096, 0), on(0, 0)}, {on(0, 4097), on(0, 0)}}, huge, api.ErrCoord},
	} {
		if l, e := glyph.Trace(x.o, x.m); e != x.e || len(l) != 0 {
			t.Errorf("P7: Trace, %s = %v, %d, want nothing, %d", x.name, l, e, x.e)
		}
	}
	for field := 0; field < 6; field++ {
		for _, v := range []int{65537, -65537, top, bottom} {
			var m api.Map
			*[]*int{&m.XX, &m.XY, &m.YX, &m.YY, &m.DX, &m.DY}[field] = v
			if l, e := glyph.Trace([][]api.Point{fair}, m); e != api.ErrMap || len(l) != 0 {
				t.Errorf("P7: Trace on the map %v = %v, %d, want ErrMap", m, l, e)
			}
		}
	}
}
