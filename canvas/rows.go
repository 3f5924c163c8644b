package canvas

// rows is the store that keeps, row by row, only the pixels in which something lies.
type rows struct {
	cells [][]cell
}

// cell is the sum of the shares of one column: here in its own pixel, right in each one to the right.
// The cells of a row stand in the order of their columns, no two of one column.
type cell struct {
	column      int
	here, right int
}

func newRows(h int) rows {
	return rows{cells: make([][]cell, h)}
}

// add adds a share that lies in the window.
func (r *rows) add(s share) {
	if s.row < 0 || s.row >= len(r.cells) {
		return
	}
	row := r.cells[s.row]
	k := 0
	for k < len(row) && row[k].column < s.column {
		k++
	}
	if k < len(row) && row[k].column == s.column {
		r.cells[s.row][k].here += s.here
		r.cells[s.row][k].right += s.right
		return
	}
	r.cells[s.row] = inserted(row, k, cell{column: s.column, here: s.here, right: s.right})
}

// inserted tells the cells of a row with one more ahead of number k.
func inserted(row []cell, k int, one cell) []cell {
	var l []cell
	for i, c := range row {
		if i == k {
			l = append(l, one)
		}
		l = append(l, c)
	}
	if k >= len(row) {
		l = append(l, one)
	}
	return l
}

// tidy drops the cells whose shares have cancelled out, so that nothing is kept where nothing is.
func (r *rows) tidy() {
	for j, row := range r.cells {
		r.cells[j] = filled(row)
	}
}

// filled tells those cells of a row in which something is.
func filled(row []cell) []cell {
	var l []cell
	for _, c := range row {
		if c.here != 0 || c.right != 0 {
			l = append(l, c)
		}
	}
	return l
}

// area tells the area of a pixel of the window.
func (r *rows) area(x int, y int) int {
	if y < 0 || y >= len(r.cells) {
		return 0
	}
	sum := 0
	for _, c := range r.cells[y] {
		if c.column < x {
			sum += c.right
		}
		if c.column == x {
			sum += c.here
		}
	}
	return sum
}
