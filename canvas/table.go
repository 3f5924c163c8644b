package canvas

// table is the store that keeps the area of each pixel of the window, row by row.
type table struct {
	w     int
	areas []int
}

func newTable(w int, h int) table {
	return table{w: w, areas: make([]int, w*h)}
}

// add adds a share that lies in the window.
func (t *table) add(s share) {
	first := s.row*t.w + s.column
	behind := s.row*t.w + t.w
	for i := first; i < behind && i < len(t.areas); i++ {
		if i == first {
			t.areas[i] += s.here
		} else {
			t.areas[i] += s.right
		}
	}
}

// area tells the area of a pixel of the window.
func (t *table) area(x int, y int) int {
	i := y*t.w + x
	if i < 0 || i >= len(t.areas) {
		return 0
	}
	return t.areas[i]
}
