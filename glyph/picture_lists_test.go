package glyph_test

import (
	"bytes"
	"slices"
	"strings"
	"testing"

	"glyph/api"
	"glyph/glyph"
)

// TestP1PicturesOfAllNumbers: whatever the numbers are, with lists that fit them and with others.
func TestP1PicturesOfAllNumbers(t *testing.T) {
	good := grayOf(2, 2)
	for _, w := range append(wild, 64, 65) {
		for _, h := range append(wild, 64, 65) {
			for _, n := range []int{0, 1, 2, 4, 6, 9, 64, 65, 128, 4096} {
				g := api.Gray{W: w, H: h, Pix: make([]byte, n)}
				fair := w >= 1 && w <= 64 && h >= 1 && h <= 64 && w*h == n
				s, e := glyph.Encode(g)
				if fair && (e != api.OK || s != textWanted(g)) || !fair && (e != api.ErrGray || s != "") {
					t.Errorf("P1: Encode of %s = %q, %d", sides(g), s, e)
				}
				for _, v := range wild {
					a, e := glyph.Lay(g, good, v, w, h)
					b, f := glyph.Lay(good, g, h, v, w)
					if e != api.OK && !isNoPicture(a) || e == api.OK && len(a.Pix) != n || (e == api.ErrGray) == fair {
						t.Errorf("P1: Lay over %s at %d, %d, way %d = %v, %d", sides(g), v, w, h, a, e)
					}
					if f != api.OK && !isNoPicture(b) || f == api.OK && len(b.Pix) != 4 || (f == api.ErrGray) == fair {
						t.Errorf("P1: Lay of %s at %d, %d, way %d = %v, %d", sides(g), h, v, w, b, f)
					}
				}
			}
		}
	}
}

// TestP1TextsOfAllSorts: short texts of any bytes, and what a good text begins with.
func TestP1TextsOfAllSorts(t *testing.T) {
	for _, tail := range shortRows(5, "", "P5", "255", "1", "6", " ", "#", "\n", "\x00") {
		for _, head := range []string{"", "P5 ", "P5 1 ", "P5 1 1 ", "P5 1 1 255"} {
			g, e := glyph.Decode(head + tail)
			if e != api.OK && (e != api.ErrText || !isNoPicture(g)) || e == api.OK && (g.W < 1 || g.H < 1 || len(g.Pix) != g.W*g.H) {
				t.Errorf("P1: Decode(%q) = %v, %d", head+tail, g, e)
			}
		}
	}
}

// roomyGray: a picture with spare room behind its bytes.
func roomyGray(w, h int) api.Gray {
	g := grayOf(w, h)
	all := append(g.Pix, 201, 202, 203, 204, 205)
	g.Pix = slices.Clip(all)[:w*h]
	return g
}

func sameRoom(a, b api.Gray) bool {
	return isPicture(a, b.W, b.H, b.Pix) && slices.Equal(a.Pix[:cap(a.Pix)], b.Pix[:cap(b.Pix)])
}

func TestP2PicturesNotWrittenInto(t *testing.T) {
	under, over := roomyGray(5, 4), roomyGray(3, 6)
	if _, e := glyph.Encode(under); e != api.OK || !sameRoom(under, roomyGray(5, 4)) {
		t.Errorf("P2: Encode = %d, left %v", e, under.Pix[:cap(under.Pix)])
	}
	for way := -1; way <= 4; way++ {
		for _, x := range []int{bottom, -2, 0, 3, top} {
			if glyph.Lay(under, over, x, x, way); !sameRoom(under, roomyGray(5, 4)) || !sameRoom(over, roomyGray(3, 6)) {
				t.Errorf("P2: Lay at %d, way %d left %v and %v", x, way, under.Pix[:cap(under.Pix)], over.Pix[:cap(over.Pix)])
			}
		}
	}
	// A refusal leaves things alone too.
	over.W = 4
	want := roomyGray(3, 6)
	want.W = 4
	if _, e := glyph.Lay(under, over, 0, 0, 0); e != api.ErrGray || !sameRoom(under, roomyGray(5, 4)) || !sameRoom(over, want) {
		t.Errorf("P2: Lay = %d, left %v and %v", e, under.Pix[:cap(under.Pix)], over.Pix[:cap(over.Pix)])
	}
}

// TestP2OnePictureTwice: a picture laid over itself, and two that share their bytes.
func TestP2OnePictureTwice(t *testing.T) {
	all := grayOf(4, 4)
	part := api.Gray{W: 3, H: 3, Pix: all.Pix[2:11]}
	for _, x := range []int{-1, 0, 1, 2} {
		checkLay(t, all, all, x, x)
		checkLay(t, all, part, x, 0)
		checkLay(t, part, all, 0, x)
	}
	if !isPicture(all, 4, 4, grayOf(4, 4).Pix) {
		t.Errorf("P2: Lay of a picture over itself left %v", all)
	}
}

// fresh: two answers to one question share nothing, and what is done to one changes no later one.
func fresh(t *testing.T, call string, ask func() api.Gray, want []byte) {
	t.Helper()
	a, b := ask(), ask()
	overwrite(a)
	for k, g := range []api.Gray{b, ask()} {
		if !slices.Equal(g.Pix, want) || bytes.IndexByte(g.Pix[:cap(g.Pix)], 77) >= 0 {
			t.Errorf("P2: %s: answer %d shares something: %v, want %v", call, k+1, g.Pix[:cap(g.Pix)], want)
		}
	}
}

func TestP2FreshDecode(t *testing.T) {
	for _, x := range []string{"A", "0123456789", strings.Repeat("abc", 20), strings.Repeat("z", 64)} {
		g := api.Gray{W: 1, H: len(x), Pix: []byte(x)}
		s := textWanted(g)
		old := strings.Clone(s)
		fresh(t, "Decode", func() api.Gray { g, _ := glyph.Decode(s); return g }, []byte(x))
		if s != old {
			t.Errorf("P2: the text changed with the picture: %q, want %q", s, old)
		}
	}
}

func TestP2FreshLay(t *testing.T) {
	even := func(w, h int) api.Gray {
		g := roomyGray(w, h)
		all := g.Pix[:cap(g.Pix)]
		for k := range all {
			all[k] &= 0xfe // no mark (77) comes of even bytes, by any way
		}
		return g
	}
	under, over := even(4, 3), even(4, 3)
	for way := 0; way < 4; way++ {
		// At 0 over hides all of under; far out nothing of it is seen; at 1 something.
		for _, x := range []int{0, 1, 4, top} {
			want := layWanted(under, over, x, 0, way)
			fresh(t, "Lay", func() api.Gray { g, _ := glyph.Lay(under, over, x, 0, way); return g }, want)
			if !sameRoom(under, even(4, 3)) || !sameRoom(over, even(4, 3)) {
				t.Errorf("P2: Lay at %d, way %d: what came out shares with what was handed in: %v, %v", x, way, under, over)
			}
		}
	}
}

// TestP2PicturesKeepNothing: what came out stays as it is when what was handed in changes.
func TestP2PicturesKeepNothing(t *testing.T) {
	for way := 0; way < 4; way++ {
		for _, x := range []int{0, 1, top} {
			under, over := roomyGray(3, 3), roomyGray(3, 3)
			text, want := textWanted(under), layWanted(under, over, x, x, way)
			s, e := glyph.Encode(under)
			g, f := glyph.Lay(under, over, x, x, way)
			overwrite(under)
			overwrite(over)
			if e != api.OK || s != text {
				t.Errorf("P2: the text changed with the picture: %q, want %q", s, text)
			}
			if f != api.OK || !isPicture(g, 3, 3, want) {
				t.Errorf("P2: the picture changed with those that were handed in: %v, want %v", g, want)
			}
		}
	}
}
