package glyph_test

import (
	"math/rand"
	"slices"
	"testing"

	"glyph/api"
	"glyph/glyph"
)

// byteWanted: the byte of an area: the greatest b of which b - 1/2 is at most 255 min(8192, |a|)/8192.
func byteWanted(a int) byte {
	b := 255
	for (2*b-1)*8192 > 2*255*min(8192, size(a)) {
		b--
	}
	return byte(b)
}

func bytesWanted(areas []int) []byte {
	var l []byte
	for _, a := range areas {
		l = append(l, byteWanted(a))
	}
	return l
}

func isPicture(g api.Gray, w, h int, pix []byte) bool {
	return g.W == w && g.H == h && slices.Equal(g.Pix, pix)
}

func isNoPicture(g api.Gray) bool { return g.W == 0 && g.H == 0 && len(g.Pix) == 0 }

// areaOf: an outline that has the area -n in pixel 0, 0, and none beside it: n from 0 to 8192.
func areaOf(n int) [][]api.Point {
	o := [][]api.Point{box(0, 0, 64, n/128)}
	for rest := n % 128; rest > 0; rest -= 64 {
		o = append(o, []api.Point{on(0, 0), on(1, 0), on(0, min(rest, 64))})
	}
	return o
}

// TestP12EveryByte: the byte of each area from -8192 to 8192, and of some beyond.
func TestP12EveryByte(t *testing.T) {
	for _, x := range []struct {
		area int
		want byte
	}{{0, 0}, {16, 0}, {17, 1}, {4096, 128}, {-8175, 254}, {-8176, 255}, {8192, 255}, {20000, 255}} {
		if b := byteWanted(x.area); b != x.want {
			t.Errorf("P12: the second reckoning: the byte of %d is %d, want %d", x.area, b, x.want)
		}
	}
	full := [][]api.Point{box(0, 0, 64, 64)}
	for n := 0; n <= 8192; n++ {
		c := canvasOf(t, 1, 1, n%2)
		for _, x := range []struct {
			call func([][]api.Point, api.Map) api.Errno
			o    [][]api.Point
			area int
		}{
			{c.Add, areaOf(n), -n}, {c.Take, areaOf(n), 0}, {c.Take, areaOf(n), n}, {c.Take, full, 8192 + n},
			{c.Take, full, 16384 + n}, {c.Take, areaOf(n), 16384 + 2*n},
		} {
			e := x.call(x.o, plain)
			a, f := c.Area(0, 0)
			g, h := c.Gray(0, 0, 1, 1)
			if e != api.OK || f != api.OK || h != api.OK || a != x.area || !isPicture(g, 1, 1, []byte{byteWanted(a)}) {
				t.Fatalf("P12: the area %d (want %d) has the picture %v, %d, want %d", a, x.area, g, h, byteWanted(a))
			}
		}
	}
}

// TestP12Parts: all parts of a window, and those that are not all in it.
func TestP12Parts(t *testing.T) {
	o := [][]api.Point{{on(-20, -30), on(300, 40), on(100, 250)}, box(10, 10, 90, 100)}
	want := bytesWanted(areasWanted(o, plain, 4, 3))
	for store, c := range bothStores(t, 4, 3) {
		if e := c.Add(o, plain); e != api.OK {
			t.Fatalf("P12: Add = %d", e)
		}
		for n := 0; n < 8*8*8*8; n++ {
			x, y, w, h := n%8-2, n/8%8-2, n/64%8-2, n/512-2
			g, e := c.Gray(x, y, w, h)
			if w < 1 || h < 1 || x < 0 || y < 0 || x+w > 4 || y+h > 3 {
				if e != api.ErrRange || !isNoPicture(g) {
					t.Errorf("P12: store %d: Gray(%d, %d, %d, %d) = %v, %d, want ErrRange", store, x, y, w, h, g, e)
				}
				continue
			}
			var pix []byte
			for j := y; j < y+h; j++ {
				pix = append(pix, want[4*j+x:4*j+x+w]...)
			}
			if e != api.OK || !isPicture(g, w, h, pix) {
				t.Errorf("P12: store %d: Gray(%d, %d, %d, %d) = %v, %d, want %v", store, x, y, w, h, g, e, pix)
			}
		}
	}
}

// TestP12Range: numbers whose sums overflow.
func TestP12Range(t *testing.T) {
	far := []int{bottom, bottom + 1, -1 << 32, -1, 0, 1, 2, 3, 1 << 32, 1 << 62, top - 1, top}
	for store, c := range bothStores(t, 3, 3) {
		for _, x := range far {
			for _, w := range far {
				fits := x >= 0 && x < 3 && w >= 1 && w <= 3 && x+w <= 3
				for k, part := range [][4]int{{x, 0, w, 1}, {0, x, 1, w}, {x, x, w, w}} {
					g, e := c.Gray(part[0], part[1], part[2], part[3])
					if !fits && (e != api.ErrRange || !isNoPicture(g)) {
						t.Errorf("P12: store %d, %d: Gray%v = %v, %d, want ErrRange", store, k, part, g, e)
					}
					if fits && (e != api.OK || !isPicture(g, part[2], part[3], make([]byte, part[2]*part[3]))) {
						t.Errorf("P12: store %d, %d: Gray%v = %v, %d", store, k, part, g, e)
					}
				}
			}
		}
	}
}

func TestP12Largest(t *testing.T) {
	o := [][]api.Point{{on(-100, -100), quad(4000, 30), on(4096, 4096), cubic(1000, 4000), cubic(10, 2000)}}
	want := bytesWanted(areasWanted(o, plain, 64, 64))
	for store, c := range bothStores(t, 64, 64) {
		e := c.Add(o, plain)
		g, f := c.Gray(0, 0, 64, 64)
		if e != api.OK || f != api.OK || !isPicture(g, 64, 64, want) {
			t.Errorf("P12: store %d: the largest window is not what it should be: %d, %d", store, e, f)
		}
		if g, f = c.Gray(63, 63, 1, 1); f != api.OK || !isPicture(g, 1, 1, want[4095:]) {
			t.Errorf("P12: store %d: Gray(63, 63, 1, 1) = %v, %d", store, g, f)
		}
	}
}

func TestP13Render(t *testing.T) {
	square := [][]api.Point{{on(0, 0), on(0, 64), on(64, 64), on(64, 0)}}
	for _, x := range []struct {
		name string
		o    [][]api.Point
		m    api.Map
		w, h int
		want []byte
	}{
		{"example 10", square, shifted(32, 0), 2, 1, []byte{128, 128}},
		{"example 10, to the left", square, shifted(-100, 0), 2, 1, []byte{0, 0}},
		{"no contour", nil, plain, 2, 2, []byte{0, 0, 0, 0}},
		{"row by row", square, shifted(0, 96), 1, 3, []byte{0, 128, 128}},
		{"a column more", square, plain, 3, 2, []byte{255, 0, 0, 0, 0, 0}},
		{"twice over", append(square, square...), plain, 1, 1, []byte{255}},
	} {
		if g, e := glyph.Render(x.o, x.m, x.w, x.h); e != api.OK || !isPicture(g, x.w, x.h, x.want) {
			t.Errorf("P13: Render, %s = %v, %d, want %v", x.name, g, e, x.want)
		}
	}
}

func TestP13Drawn(t *testing.T) {
	r := rand.New(rand.NewSource(13))
	for i := 0; i < 150; i++ {
		w, h := 1+r.Intn(9), 1+r.Intn(9)
		o, m := drawn(r, 64*max(w, h)), shifted(r.Intn(100)-50, r.Intn(100)-50)
		want := bytesWanted(areasWanted(o, m, w, h))
		if g, e := glyph.Render(o, m, w, h); e != api.OK || !isPicture(g, w, h, want) {
			t.Fatalf("P13: Render(%v, %v, %d, %d) = %v, %d, want %v", o, m, w, h, g, e, want)
		}
	}
}

func TestP13Errors(t *testing.T) {
	good := box(0, 0, 64, 64)
	for _, x := range []struct {
		name string
		o    [][]api.Point
		m    api.Map
		e    api.Errno
	}{
		{"too many contours", make([][]api.Point, 17), unfair, api.ErrMany},
		{"no shape", [][]api.Point{good, {on(0, 0)}}, unfair, api.ErrShape},
		{"too far out", [][]api.Point{good, box(0, 0, 4097, 0)}, unfair, api.ErrCoord},
		{"no map", [][]api.Point{good}, unfair, api.ErrMap},
		{"no contour, no map", nil, unfair, api.ErrMap},
		{"out of range", [][]api.Point{good, box(0, 0, 257, 0)}, huge, api.ErrRange},
		{"well", [][]api.Point{good}, plain, api.OK},
	} {
		for _, w := range []int{bottom, -1, 0, 1, 2, 63, 64, 65, 1 << 32, top} {
			for _, h := range []int{bottom, -1, 0, 1, 64, 65, top} {
				want := x.e
				if w < 1 || w > 64 || h < 1 || h > 64 {
					want = api.ErrSize
				}
				g, e := glyph.Render(x.o, x.m, w, h)
				if e != want || e != api.OK && !isNoPicture(g) || e == api.OK && len(g.Pix) != w*h {
					t.Errorf("P13: Render, %s, %d, %d: %d, want %d", x.name, w, h, e, want)
				}
			}
		}
	}
}
