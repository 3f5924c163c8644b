package glyph_test

import (
	"math/rand"
	"slices"
	"testing"

	"glyph/api"
)

// leftOf: how far x lies to the left of the right border of a pixel in column i, as P11 says it.
func leftOf(i, x int) int { return min(64, max(0, 64*i+64-x)) }

// pieceArea: what the piece from a to b counts for at pixel i, j.
func pieceArea(a, b api.Spot, i, j int) int {
	if min(a.Y, b.Y) < 64*j || max(a.Y, b.Y) > 64*j+64 {
		return 0
	}
	return (b.Y - a.Y) * (leftOf(i, a.X) + leftOf(i, b.X))
}

// areasWanted: the areas of a well shaped outline at all pixels of a window: each piece is asked for
// each pixel.
func areasWanted(o [][]api.Point, m api.Map, w, h int) []int {
	rings, _ := traceWanted(o, m)
	areas := make([]int, w*h)
	for _, ring := range rings {
		for n := range ring {
			cuts := cutsWanted(ring[n], ring[(n+1)%len(ring)])
			for c := 1; c < len(cuts); c++ {
				for k := range areas {
					areas[k] += pieceArea(cuts[c-1], cuts[c], k%w, k/w)
				}
			}
		}
	}
	return areas
}

// drawn: an outline of one to three contours of all kinds, in a window of some width and around it.
func drawn(r *rand.Rand, width int) [][]api.Point {
	var o [][]api.Point
	for k := r.Intn(3); k >= 0; k-- {
		c := contourOf([][]int{{0, 0, 0}, {1, 1, 1}, {0, 2, 2}, {2, 0, 1, 1, 0, 2}, {1, 0}, {0, 0, 0, 0, 0}}[r.Intn(6)])
		for j := range c {
			c[j].X, c[j].Y = r.Intn(2*width)-width/2, r.Intn(2*width)-width/2
		}
		o = append(o, c)
	}
	return o
}

// checkAreas: the areas of one outline, on both stores, added and taken.
func checkAreas(t *testing.T, name string, o [][]api.Point, m api.Map, w, h int, want []int) {
	t.Helper()
	less := make([]int, len(want))
	for k, a := range want {
		less[k] = -a
	}
	for store, c := range bothStores(t, w, h) {
		e := c.Add(o, m)
		if l := areasOf(t, c, w, h); e != api.OK || !slices.Equal(l, want) {
			t.Errorf("P11: %s, store %d: Add = %d, areas %v, want %v", name, store, e, l, want)
		}
		c.Clear()
		e = c.Take(o, m)
		if l := areasOf(t, c, w, h); e != api.OK || !slices.Equal(l, less) {
			t.Errorf("P11: %s, store %d: Take = %d, areas %v, want %v", name, store, e, l, less)
		}
	}
}

func TestP11Areas(t *testing.T) {
	square := []api.Point{on(0, 0), on(0, 64), on(64, 64), on(64, 0)}
	for _, x := range []struct {
		name string
		c    []api.Point
		m    api.Map
		want []int // 3 columns, 2 rows
	}{
		{"all covered once", square, plain, []int{8192, 0, 0, 0, 0, 0}},
		{"the other way round", box(0, 0, 64, 64), plain, []int{-8192, 0, 0, 0, 0, 0}},
		{"example 9", []api.Point{on(0, 0), on(64, 0), on(0, 64)}, plain, []int{-4096, 0, 0, 0, 0, 0}},
		{"example 10", square, shifted(32, 0), []int{4096, 4096, 0, 0, 0, 0}},
		{"example 10, to the left", square, shifted(-100, 0), make([]int, 6)},
		{"half over the left border", square, shifted(-32, 0), []int{4096, 0, 0, 0, 0, 0}},
		{"beside the left border", square, shifted(-64, 0), make([]int, 6)},
		{"beside the right border", square, shifted(192, 0), make([]int, 6)},
		{"half over the right border", square, shifted(160, 0), []int{0, 0, 4096, 0, 0, 0}},
		{"above", square, shifted(0, -64), make([]int, 6)},
		{"half over the upper border", square, shifted(0, -32), []int{4096, 0, 0, 0, 0, 0}},
		{"below", square, shifted(0, 128), make([]int, 6)},
		{"half over the lower border", square, shifted(0, 96), []int{0, 0, 0, 4096, 0, 0}},
		{"over four pixels", square, shifted(16, 16), []int{4608, 1536, 0, 1536, 512, 0}},
		{"over the corner of the window", square, shifted(-1, -1), []int{2 * 63 * 63, 0, 0, 0, 0, 0}},
		{"over all of the window", box(-500, -300, 700, 600), plain, []int{-8192, -8192, -8192, -8192, -8192, -8192}},
		{"to the left of the window with all its height", box(-4000, 10, 96, 100), plain,
			[]int{-108 * 64, -54 * 64, 0, -72 * 64, -36 * 64, 0}},
		{"twice round", []api.Point{on(0, 0), on(64, 0), on(64, 64), on(0, 64), on(0, 0), on(64, 0), on(64, 64), on(0, 64)}, plain,
			[]int{-16384, 0, 0, 0, 0, 0}},
		{"forth and back", []api.Point{on(3, 5), on(150, 100)}, plain, make([]int, 6)},
		{"level on a row line", []api.Point{on(0, 64), on(150, 64), on(20, 64)}, plain, make([]int, 6)},
		{"a column line down and back elsewhere", []api.Point{on(64, 0), on(64, 128), on(96, 128), on(96, 0)}, plain,
			[]int{0, 4096, 0, 0, 4096, 0}},
		{"a skew chord", []api.Point{on(10, 20), on(150, 100), on(10, 100)}, plain, []int{
			31*54 - 44*108, 31*128 + 13*105 - 44*128, 0, -36 * 108, 23*41 - 36*128, 23*128 + 13*106 - 36*128}},
		{"a Quad", []api.Point{on(0, 0), quad(64, 0), on(64, 64)}, plain,
			[]int{16*(64+16) + 48*(16+0) - 64*(64+0), 0, 0, 0, 0, 0}},
		{"all on one spot", square, api.Map{DX: 20, DY: 20}, make([]int, 6)},
	} {
		checkAreas(t, x.name, [][]api.Point{x.c}, x.m, 3, 2, x.want)
		if l := areasWanted([][]api.Point{x.c}, x.m, 3, 2); !slices.Equal(l, x.want) {
			t.Errorf("P11: %s: the second reckoning has %v, want %v", x.name, l, x.want)
		}
	}
	checkAreas(t, "no contour", nil, plain, 3, 2, make([]int, 6))
	checkAreas(t, "a hole", [][]api.Point{box(0, 0, 64, 64), {on(16, 16), on(16, 48), on(48, 48), on(48, 16)}}, plain, 1, 1, []int{-8192 + 2048})
	checkAreas(t, "one beside the other", [][]api.Point{box(0, 0, 32, 64), box(32, 0, 64, 64)}, plain, 1, 1, []int{-8192})
}

// TestP11NearLines: triangles with corners at and beside the lines and the borders of the window.
func TestP11NearLines(t *testing.T) {
	near := []int{-65, -64, -1, 0, 31, 64, 65, 128, 129, 200}
	both := bothStores(t, 2, 2)
	for n := 0; n < 10*10*10*10; n++ {
		a, b, c, d := near[n%10], near[n/10%10], near[n/100%10], near[n/1000]
		o := [][]api.Point{{on(a, b), on(c, d), on(-30, 70)}}
		want := areasWanted(o, plain, 2, 2)
		for store, v := range both {
			v.Clear()
			e := v.Add(o, plain)
			if l := areasOf(t, v, 2, 2); e != api.OK || !slices.Equal(l, want) {
				t.Fatalf("P11: store %d, %v: %d, areas %v, want %v", store, o, e, l, want)
			}
		}
	}
}

// TestP11Drawn: drawn outlines of lines and curves on windows of all sizes.
func TestP11Drawn(t *testing.T) {
	r := rand.New(rand.NewSource(11))
	for i := 0; i < 150; i++ {
		w, h := 1+r.Intn(9), 1+r.Intn(9)
		o := drawn(r, 64*max(w, h))
		m := api.Map{XX: r.Intn(2000) - 700, XY: r.Intn(900) - 450, YX: r.Intn(900) - 450, YY: r.Intn(2000) - 700, DX: r.Intn(300) - 100, DY: r.Intn(300) - 100}
		checkAreas(t, "drawn", o, m, w, h, areasWanted(o, m, w, h))
	}
}

// TestP11Widest: outlines that fill all that is in range, on the greatest window and on narrow ones.
func TestP11Widest(t *testing.T) {
	for _, x := range []struct {
		name string
		o    [][]api.Point
	}{
		{"a box", [][]api.Point{box(-256, -256, 256, 256)}},
		{"Quads", [][]api.Point{{quad(256, -256), quad(-256, 256), quad(250, 250), quad(-256, -250)}}},
		{"Cubics", [][]api.Point{{on(-256, -256), cubic(256, 256), cubic(-256, 256), on(256, -200), cubic(-256, -3), cubic(256, 7)}}},
	} {
		for _, side := range [][2]int{{64, 64}, {64, 1}, {1, 64}, {1, 1}} {
			checkAreas(t, x.name, x.o, huge, side[0], side[1], areasWanted(x.o, huge, side[0], side[1]))
		}
	}
}

// TestP11Most: a hundred outlines of two hundred points, all over the same pixels: the greatest sums.
func TestP11Most(t *testing.T) {
	round := make([]api.Point, 200)
	for i := range round {
		round[i] = box(-200, -200, 256, 256)[i%4]
	}
	for store, c := range bothStores(t, 64, 2) {
		for k := 0; k < 100; k++ {
			if e := c.Add([][]api.Point{round}, huge); e != api.OK {
				t.Fatalf("P11: store %d: Add = %d", store, e)
			}
		}
		for k, a := range areasOf(t, c, 64, 2) {
			if a != -100*50*8192 {
				t.Fatalf("P11: store %d: the area of pixel %d is %d, want %d", store, k, a, -100*50*8192)
			}
		}
	}
}

func TestP11Range(t *testing.T) {
	for store, c := range bothStores(t, 3, 2) {
		if e := c.Add([][]api.Point{box(-500, -500, 500, 500)}, plain); e != api.OK {
			t.Fatalf("P11: Add = %d", e)
		}
		for _, x := range [][2]int{{-1, 0}, {0, -1}, {3, 0}, {0, 2}, {2, 3}, {3, 1}, {4, 0}, {-1, 1}, {6, -1}, {top, 0}, {0, top}, {bottom, 1}, {1, bottom}, {top, top}, {1 << 62, 1 << 62}} {
			if a, e := c.Area(x[0], x[1]); a != 0 || e != api.ErrRange {
				t.Errorf("P11: store %d: Area%v = %d, %d, want 0 and ErrRange", store, x, a, e)
			}
		}
		if a, e := c.Area(2, 1); a != -8192 || e != api.OK {
			t.Errorf("P11: store %d: Area(2, 1) = %d, %d", store, a, e)
		}
	}
}
