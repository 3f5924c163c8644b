package glyph_test

import (
	"math/rand"
	"slices"
	"testing"

	"glyph/api"
	"glyph/glyph"
)

func canvasOf(t *testing.T, w, h, store int) *glyph.Canvas {
	t.Helper()
	c, e := glyph.New(w, h, store)
	if c == nil || e != api.OK {
		t.Fatalf("P9: New(%d, %d, %d) = %v, %d", w, h, store, c, e)
	}
	return c
}

// bothStores: a canvas of each store.
func bothStores(t *testing.T, w, h int) []*glyph.Canvas {
	t.Helper()
	return []*glyph.Canvas{canvasOf(t, w, h, 0), canvasOf(t, w, h, 1)}
}

// areasOf: of all pixels of a window, row by row.
func areasOf(t *testing.T, c *glyph.Canvas, w, h int) []int {
	t.Helper()
	var l []int
	for k := 0; k < w*h; k++ {
		a, e := c.Area(k%w, k/w)
		if e != api.OK {
			t.Fatalf("P11: Area(%d, %d) = %d, %d", k%w, k/w, a, e)
		}
		l = append(l, a)
	}
	return l
}

func box(a, b, c, d int) []api.Point {
	return []api.Point{on(a, b), on(c, b), on(c, d), on(a, d)}
}

func shifted(dx, dy int) api.Map {
	return api.Map{XX: 1024, YY: 1024, DX: dx, DY: dy}
}

func TestP9New(t *testing.T) {
	numbers := []int{bottom, -65, -1, 0, 1, 2, 3, 33, 63, 64, 65, 66, 128, 1 << 32, 1<<32 + 1, top}
	for _, w := range numbers {
		for _, h := range numbers {
			for _, store := range []int{bottom, -2, -1, 0, 1, 2, 3, 1 << 32, top} {
				fair := w >= 1 && w <= 64 && h >= 1 && h <= 64 && (store == 0 || store == 1)
				c, e := glyph.New(w, h, store)
				if !fair {
					if c != nil || e != api.ErrSize {
						t.Errorf("P9: New(%d, %d, %d) = %v, %d, want nil and ErrSize", w, h, store, c, e)
					}
					continue
				}
				if c == nil || e != api.OK || c.Taken() != 0 {
					t.Fatalf("P9: New(%d, %d, %d) = %v, %d", w, h, store, c, e)
				}
				checkWindow(t, c, w, h)
			}
		}
	}
}

// checkWindow: the window has just the pixels 0, 0 to w-1, h-1, and all areas are 0.
func checkWindow(t *testing.T, c *glyph.Canvas, w, h int) {
	t.Helper()
	if l := areasOf(t, c, w, h); !slices.Equal(l, make([]int, w*h)) {
		t.Errorf("P9: the areas of an empty canvas are %v", l)
	}
	for _, x := range []int{bottom, -1, 0, w - 1, w, w + 1, top} {
		for _, y := range []int{bottom, -1, 0, h - 1, h, h + 1, top} {
			want := api.ErrRange
			if x >= 0 && x < w && y >= 0 && y < h {
				want = api.OK
			}
			if a, e := c.Area(x, y); a != 0 || e != want {
				t.Errorf("P11: Area(%d, %d) of %d, %d = %d, %d, want 0, %d", x, y, w, h, a, e, want)
			}
		}
	}
}

// TestP10Example: example 9, and on to where more was taken away than was added.
func TestP10Example(t *testing.T) {
	o := [][]api.Point{{on(0, 0), on(64, 0), on(0, 64)}}
	for store, c := range bothStores(t, 2, 1) {
		want := 0
		for k, step := range []int{1, 1, -1, -1, -1, -1, 1} {
			call := c.Add
			if step < 0 {
				call = c.Take
			}
			want -= 4096 * step
			e := call(o, plain)
			if l := areasOf(t, c, 2, 1); e != api.OK || l[0] != want || l[1] != 0 || c.Taken() != k+1 {
				t.Errorf("P10: store %d, step %d: %d, areas %v, want %d and 0, taken %d", store, k, e, l, want, c.Taken())
			}
		}
		c.Clear()
		if l := areasOf(t, c, 2, 1); l[0] != 0 || l[1] != 0 || c.Taken() != 0 {
			t.Errorf("P10: store %d, behind Clear: areas %v, taken %d", store, l, c.Taken())
		}
	}
}

// TestP10Drawn: drawn outlines, added and taken on both stores in turn, with a Clear now and then.
func TestP10Drawn(t *testing.T) {
	r := rand.New(rand.NewSource(10))
	for round := 0; round < 30; round++ {
		w, h := 1+r.Intn(7), 1+r.Intn(7)
		want := make([]int, w*h)
		taken := 0
		both := bothStores(t, w, h)
		for step := 0; step < 25; step++ {
			what := r.Intn(16)
			o, m := drawn(r, 64*max(w, h)), shifted(r.Intn(65), r.Intn(65))
			for store, c := range both {
				e := api.OK
				switch {
				case what == 0:
					c.Clear()
				case what%2 == 0:
					e = c.Add(o, m)
				default:
					e = c.Take(o, m)
				}
				if e != api.OK {
					t.Fatalf("P10: store %d: Add or Take = %d", store, e)
				}
			}
			taken++
			areas := areasWanted(o, m, w, h)
			for k := range want {
				want[k] += areas[k] * (1 - 2*(what%2))
			}
			if what == 0 {
				want, taken = make([]int, w*h), 0
			}
			for store, c := range both {
				if l := areasOf(t, c, w, h); !slices.Equal(l, want) || c.Taken() != taken {
					t.Fatalf("P10: round %d, step %d, store %d: areas %v, want %v; taken %d, want %d", round, step, store, l, want, c.Taken(), taken)
				}
			}
		}
	}
}

func TestP10Full(t *testing.T) {
	o := [][]api.Point{box(0, 0, 64, 64)}
	for store, c := range bothStores(t, 1, 1) {
		for _, round := range []string{"since New", "since Clear"} {
			for k := 0; k < 100; k++ {
				e := api.OK
				switch {
				case k < 70:
					e = c.Add(o, plain)
				case k < 80:
					e = c.Add(nil, plain)
				default:
					e = c.Take(o, plain)
				}
				if e != api.OK || c.Taken() != k+1 {
					t.Fatalf("P10: store %d, %s: outline %d: %d, taken %d", store, round, k, e, c.Taken())
				}
			}
			for _, x := range []struct {
				o [][]api.Point
				m api.Map
				e api.Errno
			}{
				{o, plain, api.ErrFull},
				{nil, plain, api.ErrFull},
				{[][]api.Point{{on(0, 0)}}, plain, api.ErrShape},
				{make([][]api.Point, 17), plain, api.ErrMany},
				{[][]api.Point{box(0, 0, 4097, 0)}, unfair, api.ErrCoord},
				{o, unfair, api.ErrMap},
				{nil, unfair, api.ErrMap},
				{[][]api.Point{box(0, 0, 257, 0)}, huge, api.ErrRange},
			} {
				e, f := c.Add(x.o, x.m), c.Take(x.o, x.m)
				if a, g := c.Area(0, 0); e != x.e || f != x.e || a != -50*8192 || g != api.OK || c.Taken() != 100 {
					t.Errorf("P10: store %d, full %s: Add %d, Take %d, want %d; area %d, taken %d", store, round, e, f, x.e, a, c.Taken())
				}
			}
			c.Clear()
			if a, e := c.Area(0, 0); a != 0 || e != api.OK || c.Taken() != 0 {
				t.Errorf("P10: store %d, behind Clear: area %d, %d, taken %d", store, a, e, c.Taken())
			}
		}
	}
}

// TestP10Refused: with an error the canvas stays as it was, though the outline begins well.
func TestP10Refused(t *testing.T) {
	good := box(10, 20, 100, 110)
	for store, c := range bothStores(t, 3, 2) {
		if e := c.Add([][]api.Point{good}, plain); e != api.OK {
			t.Fatalf("P10: Add = %d", e)
		}
		want := areasOf(t, c, 3, 2)
		for _, x := range []struct {
			name string
			o    [][]api.Point
			m    api.Map
			e    api.Errno
		}{
			{"too many contours", append([][]api.Point{good}, make([][]api.Point, 16)...), plain, api.ErrMany},
			{"too many points", [][]api.Point{good, make([]api.Point, 197)}, plain, api.ErrMany},
			{"no shape", [][]api.Point{good, {on(0, 0)}}, plain, api.ErrShape},
			{"a lone Cubic", [][]api.Point{good, {on(0, 0), cubic(5, 5)}}, plain, api.ErrShape},
			{"too far out", [][]api.Point{good, box(0, 0, 0, -4097)}, plain, api.ErrCoord},
			{"far too far out", [][]api.Point{good, box(0, 0, top, bottom)}, plain, api.ErrCoord},
			{"no map", [][]api.Point{good}, unfair, api.ErrMap},
			{"no map and no contour", nil, unfair, api.ErrMap},
			{"out of range", [][]api.Point{good, box(0, 0, 300, 0)}, huge, api.ErrRange},
			{"a control out of range", [][]api.Point{good, {on(0, 0), quad(0, 300)}}, huge, api.ErrRange},
		} {
			e, f := c.Add(x.o, x.m), c.Take(x.o, x.m)
			if l := areasOf(t, c, 3, 2); e != x.e || f != x.e || !slices.Equal(l, want) || c.Taken() != 1 {
				t.Errorf("P10: store %d, %s: Add %d, Take %d, want %d; areas %v, want %v; taken %d", store, x.name, e, f, x.e, l, want, c.Taken())
			}
		}
	}
}
