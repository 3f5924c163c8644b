package glyph_test

import (
	"bytes"
	"slices"
	"testing"

	"glyph/api"
	"glyph/glyph"
)

func TestP1CanvasOfAllNumbers(t *testing.T) {
	for _, v := range wild {
		for _, w := range wild {
			for _, store := range wild {
				if c, e := glyph.New(v, w, store); (c == nil) != (e == api.ErrSize) || c != nil && e != api.OK {
					t.Errorf("P1: New(%d, %d, %d) = %v, %d", v, w, store, c, e)
				}
			}
			for store, c := range bothStores(t, 3, 4) {
				if a, e := c.Area(v, w); a != 0 || e != api.OK && e != api.ErrRange {
					t.Errorf("P1: store %d: Area(%d, %d) = %d, %d", store, v, w, a, e)
				}
				for _, x := range wild {
					for _, y := range wild {
						g, e := c.Gray(v, w, x, y)
						if e != api.OK && (e != api.ErrRange || !isNoPicture(g)) || e == api.OK && !isPicture(g, x, y, make([]byte, x*y)) {
							t.Errorf("P1: store %d: Gray(%d, %d, %d, %d) = %v, %d", store, v, w, x, y, g, e)
						}
					}
				}
			}
		}
	}
}

// TestP1OutlinesOnCanvas: outlines and maps of all numbers; what Trace refuses is refused, and the
// canvas then stays as it was.
func TestP1OutlinesOnCanvas(t *testing.T) {
	both := bothStores(t, 3, 2)
	for _, v := range wild {
		for k, o := range outlinesOf(v) {
			for _, w := range wild {
				m := api.Map{XX: w, XY: v, YX: v, YY: w, DX: v, DY: w}
				_, want := glyph.Trace(o, m)
				for store, c := range both {
					c.Clear()
					e, f := c.Add(o, m), c.Take(o, m)
					taken := 2
					if want != api.OK {
						taken = 0
					}
					if l := areasOf(t, c, 3, 2); e != want || f != want || c.Taken() != taken || !slices.Equal(l, make([]int, 6)) {
						t.Errorf("P1: store %d, outline %d by %d on %v: Add %d, Take %d, want %d; areas %v", store, k, v, m, e, f, want, l)
					}
				}
				g, e := glyph.Render(o, m, 3, 2)
				if e != want || e != api.OK && !isNoPicture(g) || e == api.OK && len(g.Pix) != 6 {
					t.Errorf("P1: Render of outline %d by %d on %v = %v, %d, want %d", k, v, m, g, e, want)
				}
				if g, e = glyph.Render(o, m, v, w); e != api.OK && !isNoPicture(g) {
					t.Errorf("P1: Render of outline %d on %v, %d, %d = %v, %d", k, m, v, w, g, e)
				}
			}
		}
	}
}

func TestP2CanvasWritesIntoNothing(t *testing.T) {
	o := roomy()
	for store, c := range bothStores(t, 4, 4) {
		for _, m := range []api.Map{plain, huge, unfair} {
			if c.Add(o, m); !sameOutlines(o, roomy()) {
				t.Errorf("P2: store %d: Add left %v", store, o[:cap(o)])
			}
			if c.Take(o, m); !sameOutlines(o, roomy()) {
				t.Errorf("P2: store %d: Take left %v", store, o[:cap(o)])
			}
			if glyph.Render(o, m, 4, 4); !sameOutlines(o, roomy()) {
				t.Errorf("P2: Render left %v", o[:cap(o)])
			}
		}
	}
}

// TestP2CanvasKeepsNothing: an outline is taken as it was then, whatever becomes of it.
func TestP2CanvasKeepsNothing(t *testing.T) {
	for store, c := range bothStores(t, 4, 4) {
		o := roomy()
		want := areasWanted(o, plain, 4, 4)
		e := c.Add(o, plain)
		g, f := glyph.Render(o, plain, 4, 4)
		for _, p := range o {
			for i := range p {
				p[i] = on(1, 1)
			}
		}
		o[0], o[1] = nil, nil
		if l := areasOf(t, c, 4, 4); e != api.OK || !slices.Equal(l, want) {
			t.Errorf("P2: store %d: the areas changed with what was handed in: %v, want %v", store, l, want)
		}
		if f != api.OK || !isPicture(g, 4, 4, bytesWanted(want)) {
			t.Errorf("P2: the picture changed with what was handed in: %v, %d", g, f)
		}
	}
}

// overwrite: into the bytes of a picture and into the spare room behind them.
func overwrite(g api.Gray) {
	all := g.Pix[:cap(g.Pix)]
	for i := range all {
		all[i] = 77
	}
}

// TestP2FreshPictures: no picture shares bytes with another one or with the canvas.
func TestP2FreshPictures(t *testing.T) {
	o := [][]api.Point{box(0, 0, 100, 150), box(70, 80, 200, 200)}
	want := areasWanted(o, plain, 5, 3)
	pix := bytesWanted(want)
	if bytes.IndexByte(pix, 77) >= 0 {
		t.Fatalf("P2: the mark is a byte of the picture: %v", pix)
	}
	for store, c := range bothStores(t, 5, 3) {
		if e := c.Add(o, plain); e != api.OK {
			t.Fatalf("P2: Add = %d", e)
		}
		for _, part := range [][4]int{{0, 0, 5, 3}, {0, 0, 1, 1}, {0, 0, 5, 1}, {1, 1, 3, 2}} {
			ask := func() api.Gray { g, _ := c.Gray(part[0], part[1], part[2], part[3]); return g }
			a, b := ask(), ask()
			old := slices.Clone(b.Pix)
			overwrite(a)
			if !slices.Equal(b.Pix, old) || bytes.IndexByte(b.Pix[:cap(b.Pix)], 77) >= 0 {
				t.Errorf("P2: store %d: two pictures of %v share something: %v", store, part, b)
			}
			if d := ask(); !slices.Equal(d.Pix, old) || bytes.IndexByte(d.Pix[:cap(d.Pix)], 77) >= 0 {
				t.Errorf("P2: store %d: a picture of %v hangs on what was done to an earlier one: %v", store, part, d)
			}
		}
		if l := areasOf(t, c, 5, 3); !slices.Equal(l, want) {
			t.Errorf("P2: store %d: the areas hang on what was done to a picture: %v, want %v", store, l, want)
		}
		// What came out stays as it is when the canvas changes.
		g, _ := c.Gray(0, 0, 5, 3)
		c.Take(o, plain)
		c.Clear()
		if !isPicture(g, 5, 3, pix) {
			t.Errorf("P2: store %d: a picture changed with its canvas: %v, want %v", store, g, pix)
		}
	}
	a, _ := glyph.Render(o, plain, 5, 3)
	b, _ := glyph.Render(o, plain, 5, 3)
	overwrite(a)
	if !isPicture(b, 5, 3, pix) || bytes.IndexByte(b.Pix[:cap(b.Pix)], 77) >= 0 {
		t.Errorf("P2: two pictures of Render share something: %v, want %v", b, pix)
	}
}

// TestP2OwnCanvas: what is done to one canvas changes no other one, nor what Render answers.
func TestP2OwnCanvas(t *testing.T) {
	o := [][]api.Point{box(0, 0, 100, 100)}
	want := areasWanted(o, plain, 2, 2)
	all := append(bothStores(t, 2, 2), bothStores(t, 2, 2)...)
	for k, c := range all {
		if e := c.Add(o, plain); e != api.OK || c.Taken() != 1 {
			t.Errorf("P2: canvas %d: Add = %d, taken %d", k, e, c.Taken())
		}
		for other, d := range all {
			expect := make([]int, 4)
			if other == k {
				expect = want
			}
			if l := areasOf(t, d, 2, 2); !slices.Equal(l, expect) || (d.Taken() == 1) != (other == k) {
				t.Errorf("P2: canvas %d has %v behind Add on canvas %d, want %v", other, l, k, expect)
			}
		}
		if g, e := glyph.Render(o, plain, 2, 2); e != api.OK || !isPicture(g, 2, 2, bytesWanted(want)) {
			t.Errorf("P2: Render = %v, %d", g, e)
		}
		c.Clear()
	}
}
