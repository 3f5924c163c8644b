package glyph_test

import (
	"math/big"
	"math/rand"
	"testing"

	"glyph/api"
	"glyph/glyph"
)

func TestP6Curve(t *testing.T) {
	o := at(0, 0)
	for _, x := range []struct {
		name string
		g    api.Segment
		want []api.Spot
	}{
		{"example 5", curve2(o, at(64, 0), at(64, 64)), []api.Spot{o, at(48, 16), at(64, 64)}},
		{"example 6", curve3(o, at(0, 64), at(64, 64), at(64, 0)), []api.Spot{o, at(10, 36), at(32, 48), at(54, 36), at(64, 0)}},
		{"a Line", line(at(-7, 3), at(900, -5)), []api.Spot{at(-7, 3), at(900, -5)}},
		{"a Line without length", line(at(7, 3), at(7, 3)), []api.Spot{at(7, 3), at(7, 3)}},
		{"the longest Line", line(at(-16384, 16384), at(16384, -16384)), []api.Spot{at(-16384, 16384), at(16384, -16384)}},
		{"a Quad without length", curve2(at(9, 9), at(9, 9), at(9, 9)), []api.Spot{at(9, 9), at(9, 9)}},
		{"a Cubic without length", curve3(at(9, 9), at(9, 9), at(9, 9), at(9, 9)), []api.Spot{at(9, 9), at(9, 9)}},
		{"a Quad that is straight", curve2(o, at(5000, 50), at(10000, 100)), []api.Spot{o, at(10000, 100)}},
		{"a Quad of d 16", curve2(o, o, at(16, 0)), []api.Spot{o, at(16, 0)}},
		{"a Quad of d 17", curve2(o, o, at(17, 0)), []api.Spot{o, at(4, 0), at(17, 0)}},
		{"a Quad of d 17 in Y", curve2(o, o, at(0, 17)), []api.Spot{o, at(0, 4), at(0, 17)}},
		{"a Quad of d -17", curve2(o, o, at(-17, 0)), []api.Spot{o, at(-4, 0), at(-17, 0)}},
		{"a Quad of d -17 in Y", curve2(o, o, at(0, -17)), []api.Spot{o, at(0, -4), at(0, -17)}},
		{"halves go up", curve2(o, at(9, -9), o), []api.Spot{o, at(5, -4), o}},
		{"a Cubic of 3d 15", curve3(o, o, o, at(5, 0)), []api.Spot{o, at(5, 0)}},
		{"a Cubic of 3d 18", curve3(o, o, o, at(6, 0)), []api.Spot{o, at(1, 0), at(6, 0)}},
		{"a Cubic of 3d 18 at its beginning", curve3(at(0, 6), o, o, o), []api.Spot{at(0, 6), at(0, 1), o}},
		{"a Cubic of 3d 18 below nought", curve3(o, o, o, at(0, -6)), []api.Spot{o, at(0, -1), at(0, -6)}},
	} {
		if l, e := glyph.Curve(x.g); e != api.OK || !sameSpots(l, x.want) {
			t.Errorf("P6: Curve, %s = %v, %d, want %v, 0", x.name, l, e, x.want)
		}
	}
}

func size(n int) int { return max(n, -n) }

// chordsWanted: the least n from 1 on, as P6 says it.
func chordsWanted(g api.Segment) int {
	f, c, k, t := g.From, g.First, g.Second, g.To
	d := 0
	switch g.Kind {
	case api.Quad:
		d = max(size(f.X-2*c.X+t.X), size(f.Y-2*c.Y+t.Y))
	case api.Cubic:
		d = 3 * max(size(f.X-2*c.X+k.X), size(f.Y-2*c.Y+k.Y), size(c.X-2*k.X+t.X), size(c.Y-2*k.Y+t.Y))
	}
	n := 200
	for n > 1 && 16*(n-1)*(n-1) >= d {
		n--
	}
	return n
}

// onCurve: the curve with these posts at i/n, by steps of the way from each post to the next (de
// Casteljau's rule) in exact fractions, and only then rounded half up.
func onCurve(posts []int, i, n int) int {
	way := big.NewRat(int64(i), int64(n))
	var l []*big.Rat
	for _, p := range posts {
		l = append(l, big.NewRat(int64(p), 1))
	}
	for len(l) > 1 {
		for k := 0; k+1 < len(l); k++ {
			step := new(big.Rat).Sub(l[k+1], l[k])
			l[k].Add(l[k], step.Mul(step, way))
		}
		l = l[:len(l)-1]
	}
	up := l[0].Add(l[0], big.NewRat(1, 2))
	return int(new(big.Int).Div(up.Num(), up.Denom()).Int64()) // Euclidean: goes down
}

func curveWanted(g api.Segment) []api.Spot {
	posts := []api.Spot{g.From, g.First, g.Second, g.To}
	switch g.Kind {
	case api.Line:
		return []api.Spot{g.From, g.To}
	case api.Quad:
		posts = []api.Spot{g.From, g.First, g.To}
	}
	var xs, ys []int
	for _, p := range posts {
		xs = append(xs, p.X)
		ys = append(ys, p.Y)
	}
	n := chordsWanted(g)
	var l []api.Spot
	for i := 0; i <= n; i++ {
		l = append(l, at(onCurve(xs, i, n), onCurve(ys, i, n)))
	}
	return l
}

func checkCurve(t *testing.T, g api.Segment) {
	t.Helper()
	if l, e := glyph.Curve(g); e != api.OK || !sameSpots(l, curveWanted(g)) {
		t.Fatalf("P6: Curve(%v) = %v, %d, want %v, 0", g, l, e, curveWanted(g))
	}
}

// TestP6EveryNumberOfChords: the greatest d of each n and the least one of the next, on both axes and
// both sides of nought, and for Cubic at both ends.
func TestP6EveryNumberOfChords(t *testing.T) {
	o := at(0, 0)
	for n := 1; n <= 32; n++ {
		for _, d := range []int{16 * n * n, 16*n*n + 1} {
			for _, s := range []api.Spot{at(d, 0), at(0, d), at(-d, 0), at(0, -d), at(d, 3), at(-3, -d)} {
				if size(s.X) <= 16384 && size(s.Y) <= 16384 {
					checkCurve(t, curve2(o, o, s))
					checkCurve(t, curve2(s, o, o))
				}
			}
		}
	}
	for n := 1; n <= 55; n++ {
		for _, d := range []int{16 * n * n / 3, 16*n*n/3 + 1} {
			for _, s := range []api.Spot{at(d, 0), at(0, d), at(-d, 0), at(0, -d)} {
				if size(s.X) <= 16384 && size(s.Y) <= 16384 {
					checkCurve(t, curve3(o, o, o, s))
					checkCurve(t, curve3(s, o, o, o))
				}
			}
		}
	}
}

func TestP6Widest(t *testing.T) {
	a, b, c := at(-16384, 16384), at(16384, -16384), at(16384, 16384)
	for _, x := range []struct {
		g api.Segment
		n int
	}{
		{curve2(a, b, a), 64}, {curve2(b, a, b), 64}, {curve2(a, c, a), 64},
		{curve3(a, b, a, b), 111}, {curve3(b, a, b, a), 111}, {curve3(a, b, a, c), 111}, {curve3(c, b, a, b), 111},
	} {
		checkCurve(t, x.g)
		if l, _ := glyph.Curve(x.g); len(l) != x.n+1 || l[0] != x.g.From || l[x.n] != x.g.To {
			t.Errorf("P6: Curve(%v) has %d spots, want %d", x.g, len(l), x.n+1)
		}
	}
}

func TestP6ByRule(t *testing.T) {
	r := rand.New(rand.NewSource(6))
	for i := 0; i < 1500; i++ {
		w := []int{3, 20, 150, 2000, 16384}[i%5]
		some := func() api.Spot { return at(r.Intn(2*w+1)-w, r.Intn(2*w+1)-w) }
		checkCurve(t, line(some(), some()))
		checkCurve(t, curve2(some(), some(), some()))
		checkCurve(t, curve3(some(), some(), some(), some()))
	}
}

// spotsOf: the spots of a segment, to be changed one at a time.
func spotsOf(g *api.Segment) []*api.Spot {
	return []*api.Spot{&g.From, &g.First, &g.Second, &g.To}
}

func TestP6Range(t *testing.T) {
	has := [][]bool{{true, false, false, true}, {true, true, false, true}, {true, true, true, true}}
	for kind, l := range has {
		for k, looked := range l {
			for _, v := range []int{16384, -16384, 16385, -16385, top, bottom} {
				for _, s := range []api.Spot{at(v, 0), at(0, v)} {
					g := api.Segment{Kind: kind}
					*spotsOf(&g)[k] = s
					want := api.OK
					if looked && size(v) != 16384 {
						want = api.ErrRange
					}
					l, e := glyph.Curve(g)
					if e != want || (e == api.OK) != (len(l) > 0) {
						t.Errorf("P6: Curve(%v) = %v, %d, want %d", g, l, e, want)
					}
				}
			}
		}
	}
}

// TestP6NotLookedAt: controls that a kind does not have change nothing.
func TestP6NotLookedAt(t *testing.T) {
	for _, v := range []int{5, 1000, top, bottom} {
		odd := at(v, -v)
		g := line(at(1, 2), at(3, 4))
		g.First, g.Second = odd, odd
		if l, e := glyph.Curve(g); e != api.OK || !sameSpots(l, []api.Spot{at(1, 2), at(3, 4)}) {
			t.Errorf("P6: Curve(%v) = %v, %d", g, l, e)
		}
		g = curve2(at(0, 0), at(64, 0), at(64, 64))
		g.Second = odd
		if l, e := glyph.Curve(g); e != api.OK || !sameSpots(l, []api.Spot{at(0, 0), at(48, 16), at(64, 64)}) {
			t.Errorf("P6: Curve(%v) = %v, %d", g, l, e)
		}
	}
}

func TestP6Shape(t *testing.T) {
	for _, kind := range []int{-1, 3, 4, top, bottom} {
		for _, s := range []api.Spot{at(0, 0), at(16385, 0), at(top, bottom)} {
			if l, e := glyph.Curve(api.Segment{Kind: kind, From: s, To: s}); e != api.ErrShape || len(l) != 0 {
				t.Errorf("P6: Curve of the kind %d at %v = %v, %d, want ErrShape", kind, s, l, e)
			}
		}
	}
}
