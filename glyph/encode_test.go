package glyph_test

import (
	"fmt"
	"testing"

	"glyph/api"
	"glyph/glyph"
)

// grayOf: a picture in which neighbours have different bytes, and large ones have all of them.
func grayOf(w, h int) api.Gray {
	g := api.Gray{W: w, H: h, Pix: make([]byte, w*h)}
	for k := range g.Pix {
		g.Pix[k] = byte(37*k + w - 3*h)
	}
	return g
}

func textWanted(g api.Gray) string {
	return fmt.Sprintf("P5\n%d %d\n255\n%s", g.W, g.H, g.Pix)
}

// noPictures: a side that may not be, with as many bytes as it asks for and with others; sides
// that may be, with too few bytes and too many; sides whose product overflows.
func noPictures() []api.Gray {
	all := []api.Gray{{}, {W: 1, H: 1}, {Pix: []byte{1}}, {W: 8, H: 8, Pix: make([]byte, 4096)}}
	for _, x := range []struct{ w, h, bytes int }{
		{0, 0, 0}, {0, 1, 0}, {1, 0, 0}, {0, 5, 0}, {0, 5, 5}, {-1, -1, 1}, {-2, -3, 6}, {-1, 1, 0}, {1, -1, 1},
		{65, 1, 65}, {1, 65, 65}, {65, 65, 65 * 65}, {65, 64, 65 * 64}, {64, 65, 64 * 65}, {128, 32, 4096}, {4096, 1, 4096},
		{1, 1, 0}, {1, 1, 2}, {2, 2, 3}, {2, 2, 5}, {64, 64, 4095}, {64, 64, 4097}, {2, 3, 5}, {3, 2, 7}, {4, 1, 5}, {64, 1, 1},
		{1 << 32, 1 << 32, 0}, {1 << 62, 4, 0}, {4, 1 << 62, 0}, {1<<62 + 1, 4, 4}, {4, 1<<62 + 1, 4}, {top, top, 1}, {bottom, 2, 0}, {2, bottom, 0}, {bottom, bottom, 0},
		{1 << 32, 1, 1}, {1<<32 + 1, 1, 1}, {1, 1<<32 + 1, 1}, {top, 1, 1}, {1, top, 1},
	} {
		all = append(all, api.Gray{W: x.w, H: x.h, Pix: make([]byte, x.bytes)})
	}
	return all
}

func TestP14Encode(t *testing.T) {
	for _, x := range []struct {
		g    api.Gray
		want string
	}{
		{api.Gray{W: 2, H: 1, Pix: []byte("AB")}, "P5\n2 1\n255\nAB"},
		{api.Gray{W: 1, H: 2, Pix: []byte("AB")}, "P5\n1 2\n255\nAB"},
		{api.Gray{W: 1, H: 1, Pix: []byte{0}}, "P5\n1 1\n255\n\x00"},
		{api.Gray{W: 3, H: 1, Pix: []byte{255, 10, 35}}, "P5\n3 1\n255\n\xff\n#"},
		{api.Gray{W: 10, H: 1, Pix: []byte("0123456789")}, "P5\n10 1\n255\n0123456789"},
	} {
		if s, e := glyph.Encode(x.g); s != x.want || e != api.OK {
			t.Errorf("P14: Encode(%v) = %q, %d, want %q", x.g, s, e, x.want)
		}
	}
}

// TestP14EverySize: pictures of all sizes.
func TestP14EverySize(t *testing.T) {
	for w := 1; w <= 64; w++ {
		for h := 1; h <= 64; h++ {
			g := grayOf(w, h)
			if s, e := glyph.Encode(g); s != textWanted(g) || e != api.OK {
				t.Fatalf("P14: Encode of %d columns and %d rows = %q, %d", w, h, s, e)
			}
		}
	}
}

// TestP14EveryByte: each byte comes into the text as it is.
func TestP14EveryByte(t *testing.T) {
	for b := 0; b < 256; b++ {
		g := api.Gray{W: 2, H: 1, Pix: []byte{byte(b), byte(255 - b)}}
		if s, e := glyph.Encode(g); s != textWanted(g) || e != api.OK {
			t.Errorf("P14: Encode(%v) = %q, %d", g, s, e)
		}
	}
}

func TestP14NoPicture(t *testing.T) {
	for _, g := range noPictures() {
		if s, e := glyph.Encode(g); s != "" || e != api.ErrGray {
			t.Errorf("P14: Encode of %d columns, %d rows and %d bytes = %q, %d, want ErrGray", g.W, g.H, len(g.Pix), s, e)
		}
	}
	// A byte too few or too many, at all sizes.
	for w := 1; w <= 64; w++ {
		for h := 1; h <= 64; h++ {
			g := grayOf(w, h)
			all := append(g.Pix, 7)
			for _, pix := range [][]byte{all[:w*h-1], all, nil} {
				g.Pix = pix
				if s, e := glyph.Encode(g); s != "" || e != api.ErrGray {
					t.Fatalf("P14: Encode of %d columns, %d rows and %d bytes = %q, %d, want ErrGray", w, h, len(pix), s, e)
				}
			}
		}
	}
}
