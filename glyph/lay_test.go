package glyph_test

import (
	"fmt"
	"math/big"
	"slices"
	"testing"

	"glyph/api"
	"glyph/glyph"
)

// spotOn: which of n columns or rows from + i is, if it is one. (In numbers that do not overflow.)
func spotOn(from, i, n int) (int, bool) {
	sum := new(big.Int).Add(big.NewInt(int64(from)), big.NewInt(int64(i)))
	if sum.Sign() < 0 || sum.Cmp(big.NewInt(int64(n))) >= 0 {
		return 0, false
	}
	return int(sum.Int64()), true
}

func mixWanted(u, v byte, way int) byte {
	both := map[int]int{
		api.Sum: min(int(u)+int(v), 255), api.Most: max(int(u), int(v)), api.Top: int(v), api.Minus: max(int(u)-int(v), 0),
	}
	return byte(both[way])
}

// layWanted: the bytes of under, and then each pixel of over in its turn.
func layWanted(under, over api.Gray, x, y, way int) []byte {
	pix := slices.Clone(under.Pix)
	for j := 0; j < over.H; j++ {
		for i := 0; i < over.W; i++ {
			p, a := spotOn(x, i, under.W)
			q, b := spotOn(y, j, under.H)
			if a && b {
				pix[q*under.W+p] = mixWanted(pix[q*under.W+p], over.Pix[j*over.W+i], way)
			}
		}
	}
	return pix
}

func checkLay(t *testing.T, under, over api.Gray, x, y int) {
	t.Helper()
	for way := 0; way < 4; way++ {
		want := layWanted(under, over, x, y, way)
		if g, e := glyph.Lay(under, over, x, y, way); e != api.OK || !isPicture(g, under.W, under.H, want) {
			t.Errorf("P16: Lay of %s over %s at %d, %d, way %d = %v, %d, want %v", sides(over), sides(under), x, y, way, g, e, want)
		}
	}
}

func TestP16Lay(t *testing.T) {
	under := api.Gray{W: 2, H: 1, Pix: []byte{10, 200}}
	over := api.Gray{W: 1, H: 1, Pix: []byte{100}}
	for _, x := range []struct {
		x, y, way int
		want      []byte
	}{
		{1, 0, api.Sum, []byte{10, 255}}, {1, 0, api.Most, []byte{10, 200}}, {1, 0, api.Top, []byte{10, 100}}, {1, 0, api.Minus, []byte{10, 100}},
		{0, 0, api.Sum, []byte{110, 200}}, {0, 0, api.Most, []byte{100, 200}}, {0, 0, api.Top, []byte{100, 200}}, {0, 0, api.Minus, []byte{0, 200}},
		{2, 0, api.Sum, under.Pix}, {2, 0, api.Most, under.Pix}, {2, 0, api.Top, under.Pix}, {2, 0, api.Minus, under.Pix},
		{-1, 0, api.Sum, under.Pix}, {-1, 0, api.Most, under.Pix}, {-1, 0, api.Top, under.Pix}, {-1, 0, api.Minus, under.Pix},
	} {
		if g, e := glyph.Lay(under, over, x.x, x.y, x.way); e != api.OK || !isPicture(g, 2, 1, x.want) {
			t.Errorf("P16: Lay at %d, %d, way %d = %v, %d, want %v", x.x, x.y, x.way, g, e, x.want)
		}
	}
	a := api.Gray{W: 3, H: 2, Pix: []byte("abcdef")}
	b := api.Gray{W: 2, H: 3, Pix: []byte("UVWXYZ")}
	for _, x := range []struct {
		x, y int
		want string
	}{{0, 0, "UVcWXf"}, {1, 0, "aUVdWX"}, {2, 1, "abcdeU"}, {-1, -1, "XbcZef"}, {1, -2, "aYZdef"}, {0, -3, "abcdef"}, {0, 2, "abcdef"}, {3, 0, "abcdef"}, {-2, 0, "abcdef"}} {
		if g, e := glyph.Lay(a, b, x.x, x.y, api.Top); e != api.OK || !isPicture(g, 3, 2, []byte(x.want)) {
			t.Errorf("P16: Lay at %d, %d = %q, %d, want %q", x.x, x.y, g.Pix, e, x.want)
		}
	}
}

// TestP16EveryByte: each two bytes, by every way.
func TestP16EveryByte(t *testing.T) {
	under := api.Gray{W: 16, H: 16, Pix: make([]byte, 256)}
	for k := range under.Pix {
		under.Pix[k] = byte(k)
	}
	for v := 0; v < 256; v++ {
		over := api.Gray{W: 16, H: 16, Pix: slices.Repeat([]byte{byte(v)}, 256)}
		checkLay(t, under, over, 0, 0)
	}
}

// TestP16EveryPlace: pictures of all small sizes, one over another, at all places where they meet
// and beside these.
func TestP16EveryPlace(t *testing.T) {
	for n := 0; n < 4*4*4*4; n++ {
		under, over := grayOf(1+n%4, 1+n/4%4), grayOf(1+n/16%4, 1+n/64)
		for x := -over.W - 2; x <= under.W+2; x++ {
			for y := -over.H - 2; y <= under.H+2; y++ {
				checkLay(t, under, over, x, y)
			}
		}
	}
}

func TestP16Largest(t *testing.T) {
	sizes := [][2]int{{64, 64}, {64, 1}, {1, 64}, {1, 1}, {63, 2}}
	for _, a := range sizes {
		for _, b := range sizes {
			for _, x := range []int{-65, -64, -63, -62, -1, 0, 1, 62, 63, 64, 65} {
				for _, y := range []int{-65, -64, -63, 0, 1, 63, 64, 65} {
					checkLay(t, grayOf(a[0], a[1]), grayOf(b[0], b[1]), x, y)
				}
			}
		}
	}
}

// TestP16FarOut: places whose sums or differences overflow.
func TestP16FarOut(t *testing.T) {
	far := []int{bottom, bottom + 1, bottom + 63, bottom + 64, -1<<32 - 1, -1 << 32, -1 << 31, -1, 0, 1, 1 << 31, 1 << 32, 1<<32 + 1, 1 << 62, top - 64, top - 63, top - 1, top}
	for _, n := range [][4]int{{2, 3, 3, 2}, {64, 64, 64, 64}, {1, 1, 1, 1}, {1, 64, 64, 1}} {
		under, over := grayOf(n[0], n[1]), grayOf(n[2], n[3])
		for _, v := range far {
			for _, w := range []int{bottom, -1, 0, 1, top} {
				checkLay(t, under, over, v, w)
				checkLay(t, under, over, w, v)
			}
			checkLay(t, under, over, v, v)
		}
	}
}

// TestP16Errors: no picture comes ahead of no way, at every place.
func TestP16Errors(t *testing.T) {
	good := grayOf(2, 3)
	all := []api.Gray{good}
	all = append(all, noPictures()...)
	for k, under := range all {
		for l, over := range all {
			for _, way := range []int{bottom, -1<<32 + 1, -1, 0, 1, 2, 3, 4, 1 << 32, 1<<32 + 3, top} {
				for _, x := range []int{bottom, 0, 5, top} {
					want := api.OK
					if k != 0 || l != 0 {
						want = api.ErrGray
					} else if way < 0 || way > 3 {
						want = api.ErrWay
					}
					g, e := glyph.Lay(under, over, x, 0, way)
					if e != want || e != api.OK && !isNoPicture(g) {
						t.Fatalf("P16: Lay of %s over %s at %d, way %d = %v, %d, want %d", sides(over), sides(under), x, way, g, e, want)
					}
				}
			}
		}
	}
}

func sides(g api.Gray) string { return fmt.Sprintf("%d x %d (%d bytes)", g.W, g.H, len(g.Pix)) }
