package glyph_test

import (
	"math/big"
	"testing"

	"glyph/api"
	"glyph/glyph"
)

type placed struct {
	m    api.Map
	s    api.Spot
	want api.Spot
	e    api.Errno
}

func runPlaces(t *testing.T, l []placed) {
	t.Helper()
	for _, x := range l {
		if p, e := glyph.Place(x.m, x.s); p != x.want || e != x.e {
			t.Errorf("P5: Place(%v, %v) = %v, %d, want %v, %d", x.m, x.s, p, e, x.want, x.e)
		}
	}
}

var plain = api.Map{XX: 1024, YY: 1024}

func TestP5Place(t *testing.T) {
	runPlaces(t, []placed{
		{plain, at(3, -3), at(2, -1), api.OK},
		{api.Map{XY: -1024, YX: 1024, DX: 10}, at(6, 8), at(6, 3), api.OK},
		{api.Map{XX: 3, XY: 5, YX: 7, YY: 11, DX: 13, DY: 17}, at(2048, 4096), at(26, 46), api.OK},
		{api.Map{XX: 1}, at(1023, 0), at(0, 0), api.OK},
		{api.Map{XX: 1}, at(1024, 0), at(1, 0), api.OK},
		{api.Map{YX: 1}, at(-1024, 0), at(0, 0), api.OK},
		{api.Map{YX: 1}, at(-1025, 0), at(0, -1), api.OK},
		{api.Map{XX: 1, XY: 1}, at(512, 512), at(1, 0), api.OK},
	})
}

// byRule: DX + (XX*X + XY*Y)/2048, rounded half up, by numbers that can't overflow.
func byRule(d, a, x, b, y int) int {
	v := new(big.Int).Mul(big.NewInt(int64(a)), big.NewInt(int64(x)))
	v.Add(v, new(big.Int).Mul(big.NewInt(int64(b)), big.NewInt(int64(y))))
	v.Add(v, big.NewInt(1024))
	v.Div(v, big.NewInt(2048)) // Euclidean: goes down
	return d + int(v.Int64())
}

func TestP5ByRule(t *testing.T) {
	scales := []int{-65536, -2047, -1024, -1, 0, 1, 1000, 65536}
	shifts := []int{-16384, -1, 0, 16384}
	spots := []int{-8192, -1025, -1024, -1, 0, 1, 1023, 1024, 8192}
	limit := func(v int) bool { return -16384 <= v && v <= 16384 }
	for i := 0; i < 8*8*4*9*9; i++ {
		a, b := scales[i%8], scales[i/8%8]
		d, x, y := shifts[i/64%4], spots[i/256%9], spots[i/2304%9]
		m := api.Map{XX: a, XY: b, YX: b, YY: -a, DX: d, DY: -d}
		want, e := at(byRule(d, a, x, b, y), byRule(-d, b, x, -a, y)), api.OK
		if !limit(want.X) || !limit(want.Y) {
			want, e = at(0, 0), api.ErrRange
		}
		runPlaces(t, []placed{{m, at(x, y), want, e}})
	}
}

func TestP5Coord(t *testing.T) {
	zero := api.Map{}
	unfair := api.Map{XX: top, DY: bottom}
	for _, v := range []int{8193, -8193, top, bottom} {
		runPlaces(t, []placed{
			{zero, at(v, 0), at(0, 0), api.ErrCoord},
			{zero, at(0, v), at(0, 0), api.ErrCoord},
			{unfair, at(v, v), at(0, 0), api.ErrCoord},
			{api.Map{DX: 5}, at(v, 0), at(0, 0), api.ErrCoord},
		})
	}
	runPlaces(t, []placed{
		{api.Map{DX: 5}, at(8192, -8192), at(5, 0), api.OK},
		{api.Map{DX: 5}, at(-8192, 8192), at(5, 0), api.OK},
	})
}

func TestP5Map(t *testing.T) {
	for field := 0; field < 6; field++ {
		limit := 65536
		if field >= 4 {
			limit = 16384
		}
		for _, v := range []int{limit, -limit, limit + 1, -limit - 1, top, bottom} {
			var m api.Map
			*[]*int{&m.XX, &m.XY, &m.YX, &m.YY, &m.DX, &m.DY}[field] = v
			if v == limit || v == -limit {
				runPlaces(t, []placed{{m, at(0, 0), at(m.DX, m.DY), api.OK}})
				continue
			}
			runPlaces(t, []placed{
				{m, at(0, 0), at(0, 0), api.ErrMap},
				{m, at(8192, 8192), at(0, 0), api.ErrMap},
			})
		}
	}
}

func TestP5Range(t *testing.T) {
	runPlaces(t, []placed{
		{api.Map{XX: 1024, YY: 1024, DX: 16384}, at(-1, 0), at(16384, 0), api.OK},
		{api.Map{XX: 1024, YY: 1024, DX: 16384}, at(1, 0), at(0, 0), api.ErrRange},
		{api.Map{XX: 1024, YY: 1024, DX: -16384}, at(-1, 0), at(-16384, 0), api.OK},
		{api.Map{XX: 1024, YY: 1024, DX: -16384}, at(-2, 0), at(0, 0), api.ErrRange},
		{api.Map{XX: 1024, YY: 1024, DY: 16384}, at(0, -1), at(0, 16384), api.OK},
		{api.Map{XX: 1024, YY: 1024, DY: 16384}, at(9, 1), at(0, 0), api.ErrRange},
		{api.Map{XX: 1024, YY: 1024, DY: -16384}, at(0, -1), at(0, -16384), api.OK},
		{api.Map{XX: 1024, YY: 1024, DY: -16384}, at(9, -2), at(0, 0), api.ErrRange},
		{api.Map{XX: 65536, DX: -16384}, at(1024, 0), at(16384, 0), api.OK},
		{api.Map{XX: 65536, DX: -16384}, at(1025, 0), at(0, 0), api.ErrRange},
		{api.Map{XX: 65536, XY: 65536, YX: -65536, YY: -65536}, at(8192, 8192), at(0, 0), api.ErrRange},
	})
}
