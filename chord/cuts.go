package chord

import (
	"glyph/api"
	"glyph/place"
	"glyph/whole"
)

// Cuts tells the spots at which the chord from a to b is cut, its ends with them (P8).
func Cuts(a api.Spot, b api.Spot) ([]api.Spot, api.Errno) {
	if !place.InRange(a) || !place.InRange(b) {
		return nil, api.ErrRange
	}
	rows := atRows(a, b)
	rows = append(rows, b)
	l := []api.Spot{a}
	from := a
	for _, to := range rows {
		columns := atColumns(from, to)
		l = append(l, columns...)
		l = append(l, to)
		from = to
	}
	return l, api.OK
}

// atRows tells where the straight line from a to b meets the row lines between them.
func atRows(a api.Spot, b api.Spot) []api.Spot {
	var l []api.Spot
	for _, y := range linesBetween(a.Y, b.Y) {
		x := meet(y, a.Y, b.Y, a.X, b.X)
		l = append(l, api.Spot{X: x, Y: y})
	}
	return l
}

// atColumns tells where the straight line from a to b meets the column lines between them.
func atColumns(a api.Spot, b api.Spot) []api.Spot {
	var l []api.Spot
	for _, x := range linesBetween(a.X, b.X) {
		y := meet(x, a.X, b.X, a.Y, b.Y)
		l = append(l, api.Spot{X: x, Y: y})
	}
	return l
}

// linesBetween tells the multiples of a pixel's side that are strictly between two numbers, in the
// order from the one to the other.
func linesBetween(from int, to int) []int {
	var l []int
	// Go's remainder goes towards nought: this first line may lie at from, or not on the way at all.
	n := from - from%api.Pixel
	if from < to {
		for ; n < to; n += api.Pixel {
			if n > from {
				l = append(l, n)
			}
		}
		return l
	}
	for ; n > to; n -= api.Pixel {
		if n < from {
			l = append(l, n)
		}
	}
	return l
}

// meet tells one coordinate of the spot where a straight line comes to n in the other one. In this
// one it goes from a to b, in the other from one number to another, which are not the same.
func meet(n int, from int, to int, a int, b int) int {
	over := (b - a) * (n - from)
	under := to - from
	if under < 0 {
		over = -over
		under = -under
	}
	// Half up of a whole number and a fraction is the whole number and half up of the fraction.
	return a + int(whole.HalfUp(int64(over), int64(under)))
}
