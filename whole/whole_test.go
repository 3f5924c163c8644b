package whole

import (
	"math/big"
	"testing"
)

const (
	top    = 1<<63 - 1
	bottom = -1 << 63
)

func TestHalfUpOfTheDocument(t *testing.T) {
	for _, x := range []struct{ n, d, want int64 }{
		{3, 2, 2}, {5, 4, 1}, {-1, 2, 0}, {-3, 2, -1}, {-8, 5, -2},
	} {
		if got := HalfUp(x.n, x.d); got != x.want {
			t.Errorf("HalfUp(%d, %d) = %d, want %d", x.n, x.d, got, x.want)
		}
	}
}

// floorOfSum: the greatest whole number that is at most n/d + 1/2, by numbers that do not overflow.
func floorOfSum(n, d int64) int64 {
	over := new(big.Int).Lsh(big.NewInt(n), 1)
	over.Add(over, big.NewInt(d))
	under := new(big.Int).Lsh(big.NewInt(d), 1)
	// Div is Euclidean: with a divisor above nought it goes down.
	return over.Div(over, under).Int64()
}

func TestHalfUpEverywhere(t *testing.T) {
	for d := int64(1); d <= 9; d++ {
		for n := int64(-60); n <= 60; n++ {
			if got, want := HalfUp(n, d), floorOfSum(n, d); got != want {
				t.Errorf("HalfUp(%d, %d) = %d, want %d", n, d, got, want)
			}
		}
	}
	wild := []int64{bottom, bottom + 1, bottom / 2, -1, 0, 1, top / 2, top/2 + 1, top - 1, top}
	for _, n := range wild {
		for _, d := range []int64{1, 2, 3, 2048, top / 2, top - 1, top} {
			if got, want := HalfUp(n, d), floorOfSum(n, d); got != want {
				t.Errorf("HalfUp(%d, %d) = %d, want %d", n, d, got, want)
			}
		}
		for _, d := range []int64{0, -1, bottom} {
			if got := HalfUp(n, d); got != 0 {
				t.Errorf("HalfUp(%d, %d) = %d, want 0", n, d, got)
			}
		}
	}
}

func TestWithin(t *testing.T) {
	for _, x := range []struct {
		n, most int
		want    bool
	}{
		{0, 0, true}, {1, 0, false}, {-1, 0, false},
		{64, 64, true}, {-64, 64, true}, {65, 64, false}, {-65, 64, false},
		{top, 64, false}, {bottom, 64, false}, {top, top, true}, {bottom, top, false},
	} {
		if got := Within(x.n, x.most); got != x.want {
			t.Errorf("Within(%d, %d) = %v, want %v", x.n, x.most, got, x.want)
		}
	}
}

func TestSizeGreaterLesser(t *testing.T) {
	for _, x := range []struct{ n, want int }{{0, 0}, {1, 1}, {-1, 1}, {7, 7}, {-7, 7}, {top, top}, {bottom + 1, top}} {
		if got := Size(x.n); got != x.want {
			t.Errorf("Size(%d) = %d, want %d", x.n, got, x.want)
		}
	}
	for _, x := range []struct{ a, b, want int }{{0, 0, 0}, {1, 2, 2}, {2, 1, 2}, {-1, -2, -1}, {bottom, top, top}} {
		if got := Greater(x.a, x.b); got != x.want {
			t.Errorf("Greater(%d, %d) = %d, want %d", x.a, x.b, got, x.want)
		}
	}
	for _, x := range []struct{ a, b, want int }{{0, 0, 0}, {1, 2, 1}, {2, 1, 1}, {-1, -2, -2}, {bottom, top, bottom}} {
		if got := Lesser(x.a, x.b); got != x.want {
			t.Errorf("Lesser(%d, %d) = %d, want %d", x.a, x.b, got, x.want)
		}
	}
}
