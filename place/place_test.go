package place

import (
	"testing"

	"glyph/api"
)

const (
	top    = 1<<63 - 1
	bottom = -1 << 63
)

func TestFair(t *testing.T) {
	for field := 0; field < 6; field++ {
		limit := api.MaxScale
		if field >= 4 {
			limit = api.MaxPlace
		}
		for _, x := range []struct {
			n    int
			want bool
		}{
			{0, true}, {limit, true}, {-limit, true},
			{limit + 1, false}, {-limit - 1, false}, {top, false}, {bottom, false},
		} {
			var m api.Map
			*[]*int{&m.XX, &m.XY, &m.YX, &m.YY, &m.DX, &m.DY}[field] = x.n
			if got := Fair(m); got != x.want {
				t.Errorf("Fair(%v) = %v, want %v", m, got, x.want)
			}
		}
	}
}

func TestInRange(t *testing.T) {
	for _, x := range []struct {
		n    int
		want bool
	}{
		{0, true}, {16384, true}, {-16384, true}, {16385, false}, {-16385, false}, {top, false}, {bottom, false},
	} {
		if got := InRange(api.Spot{X: x.n}); got != x.want {
			t.Errorf("InRange of %d, 0 = %v, want %v", x.n, got, x.want)
		}
		if got := InRange(api.Spot{Y: x.n}); got != x.want {
			t.Errorf("InRange of 0, %d = %v, want %v", x.n, got, x.want)
		}
	}
}
