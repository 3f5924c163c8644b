// Package whole: arithmetic of whole numbers that several parts of glyph need.
package whole

// Within tells whether n is from -most to most.
func Within(n int, most int) bool {
	return n >= -most && n <= most
}

// Size tells n without its sign. (The least int has no such number; it does not come here.)
func Size(n int) int {
	if n < 0 {
		return -n
	}
	return n
}

// Greater tells the greater of two numbers.
func Greater(a int, b int) int {
	if a > b {
		return a
	}
	return b
}

// Lesser tells the lesser of two numbers.
func Lesser(a int, b int) int {
	if a < b {
		return a
	}
	return b
}

// HalfUp tells n/d rounded half up: the greatest whole number that is at most n/d plus one half.
// A fraction has a d from 1 on; what has another one is told as 0, so that nothing divides by nought.
// (The numbers of a cubic curve need more than 32 bits, and an int may have no more than these.)
func HalfUp(n int64, d int64) int64 {
	if d < 1 {
		return 0
	}
	q := n / d
	r := n % d
	// Go's division goes towards nought; half up counts from the whole number below.
	if r < 0 {
		q--
		r += d
	}
	// Not 2r >= d: at great numbers the doubling would overflow.
	if r >= d-r {
		q++
	}
	return q
}
