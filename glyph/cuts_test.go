package glyph_test

import (
	"math/rand"
	"testing"

	"glyph/api"
	"glyph/glyph"
)

func TestP8Cuts(t *testing.T) {
	for _, x := range []struct {
		name string
		want []api.Spot
	}{
		{"example 7", []api.Spot{at(10, 20), at(64, 51), at(87, 64), at(128, 87), at(150, 100)}},
		{"example 7 back", []api.Spot{at(150, 100), at(128, 87), at(87, 64), at(64, 51), at(10, 20)}},
		{"example 8", []api.Spot{at(0, 0), at(64, 0), at(128, 0), at(192, 0), at(200, 0)}},
		{"example 8, no length", []api.Spot{at(5, 5), at(5, 5)}},
		{"no length on a corner", []api.Spot{at(-64, 128), at(-64, 128)}},
		{"in one pixel", []api.Spot{at(3, 60), at(60, 3)}},
		{"over one whole pixel", []api.Spot{at(0, 64), at(64, 0)}},
		{"down on a column line", []api.Spot{at(64, -70), at(64, -64), at(64, 0), at(64, 64), at(64, 65)}},
		{"through corners", []api.Spot{at(-70, -70), at(-64, -64), at(0, 0), at(64, 64), at(70, 70)}},
		{"a row cut that comes to lie on a column line", []api.Spot{at(63, 0), at(64, 64), at(64, 128)}},
		{"half up above nought", []api.Spot{at(0, 0), at(1, 64), at(1, 128)}},
		{"half up below nought", []api.Spot{at(0, 0), at(0, 64), at(-1, 128)}},
		{"half up of a column's y", []api.Spot{at(0, 0), at(64, 1), at(128, 1)}},
		{"half up of a column's y, below nought", []api.Spot{at(0, 0), at(64, 0), at(128, -1)}},
	} {
		if l, e := glyph.Cuts(x.want[0], x.want[len(x.want)-1]); e != api.OK || !sameSpots(l, x.want) {
			t.Errorf("P8: Cuts, %s = %v, %d, want %v, 0", x.name, l, e, x.want)
		}
	}
}

// crossing: where the straight line through two spots (u, v) comes to u = n, rounded half up.
func crossing(n, u0, v0, u1, v1 int) int {
	over, under := 2*(v0*(u1-n)+v1*(n-u0))+(u1-u0), 2*(u1-u0)
	if under < 0 {
		over, under = -over, -under
	}
	q := over / under
	for q*under > over {
		q--
	}
	return q
}

// linesWanted: the lines strictly between two numbers, found among all that are in range.
func linesWanted(from, to int) []int {
	var l []int
	for n := -16384; n <= 16384; n += 64 {
		if from < n && n < to {
			l = append(l, n)
		}
		if to < n && n < from {
			l = append([]int{n}, l...)
		}
	}
	return l
}

func cutsWanted(a, b api.Spot) []api.Spot {
	rows := []api.Spot{a}
	for _, y := range linesWanted(a.Y, b.Y) {
		rows = append(rows, at(crossing(y, a.Y, a.X, b.Y, b.X), y))
	}
	rows = append(rows, b)
	l := []api.Spot{a}
	for i := 1; i < len(rows); i++ {
		p, q := rows[i-1], rows[i]
		for _, x := range linesWanted(p.X, q.X) {
			l = append(l, at(x, crossing(x, p.X, p.Y, q.X, q.Y)))
		}
		l = append(l, q)
	}
	return l
}

func checkCuts(t *testing.T, a, b api.Spot) {
	t.Helper()
	l, e := glyph.Cuts(a, b)
	if e != api.OK || !sameSpots(l, cutsWanted(a, b)) {
		t.Fatalf("P8: Cuts(%v, %v) = %v, %d, want %v, 0", a, b, l, e, cutsWanted(a, b))
	}
	for i := 1; i < len(l); i++ {
		if !inOnePixel(l[i-1].X, l[i].X) || !inOnePixel(l[i-1].Y, l[i].Y) {
			t.Fatalf("P8: Cuts(%v, %v): the piece from %v to %v is not in one pixel", a, b, l[i-1], l[i])
		}
	}
}

func inOnePixel(u, v int) bool {
	low := min(u, v)
	border := low - (low%64+64)%64
	return max(u, v) <= border+64
}

// TestP8NearLines: all chords between numbers at and beside lines, on both sides of nought.
func TestP8NearLines(t *testing.T) {
	near := []int{-129, -128, -127, -65, -64, -63, -32, -1, 0, 1, 31, 63, 64, 65, 128, 130}
	for _, ax := range near {
		for _, ay := range near {
			for _, bx := range near {
				for _, by := range near {
					checkCuts(t, at(ax, ay), at(bx, by))
				}
			}
		}
	}
}

func TestP8Drawn(t *testing.T) {
	r := rand.New(rand.NewSource(8))
	for i := 0; i < 5000; i++ {
		w := []int{20, 100, 400, 3000, 16384}[i%5]
		some := func() api.Spot { return at(r.Intn(2*w+1)-w, r.Intn(2*w+1)-w) }
		a, b := some(), some()
		checkCuts(t, a, b)
		checkCuts(t, b, a)
		checkCuts(t, a, at(a.X, b.Y))
		checkCuts(t, a, at(b.X, a.Y))
	}
}

func TestP8Edge(t *testing.T) {
	edge := []int{-16384, -16383, -1, 0, 1, 16383, 16384}
	for _, ax := range edge {
		for _, ay := range edge {
			for _, bx := range edge {
				for _, by := range edge {
					checkCuts(t, at(ax, ay), at(bx, by))
				}
			}
		}
	}
	if l, e := glyph.Cuts(at(-16384, -16384), at(16384, 16384)); e != api.OK || len(l) != 513 {
		t.Errorf("P8: Cuts from corner to corner has %d spots, %d, want 513", len(l), e)
	}
}

func TestP8Range(t *testing.T) {
	for _, v := range []int{16385, -16385, top, bottom} {
		for _, s := range []api.Spot{at(v, 0), at(0, v), at(v, v)} {
			for _, x := range [][]api.Spot{{s, at(0, 0)}, {at(0, 0), s}, {s, s}} {
				if l, e := glyph.Cuts(x[0], x[1]); e != api.ErrRange || len(l) != 0 {
					t.Errorf("P8: Cuts(%v, %v) = %v, %d, want ErrRange", x[0], x[1], l, e)
				}
			}
		}
	}
}
