// Package whole: arithmetic of whole numbers that several parts of glyph need.
package whole

// Within tells whether n is from -most to most.
func Within(n int, most int) bool {
	return n >= -most && n <= most
}

// HalfUp tells n/d rounded half up: the greatest whole number that is at most n/d plus one half.
// A fraction has a d from 1 on; what has another one is told as 0, so that nothing divides by nought.
func HalfUp(n int, d int) int {
	if d < 1 {
		return 0
	}
	q := n / d
	r := n % d
	// Go's division goes towards nought; half up counts from the whole number below.
	if r < 0 {
		q--
		r += d
	}
	// Not 2r >= d: at great numbers the doubling would overflow.
	if r >= d-r {
		q++
	}
	return q
}
