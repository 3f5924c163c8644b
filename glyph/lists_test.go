package glyph_test

import (
	"testing"

	"glyph/api"
	"glyph/glyph"
)

var wild = []int{bottom, bottom + 1, -8193, -4097, -1, 0, 1, 2, 3, 4097, 8193, top - 1, top}

// outlinesOf: outlines of all sorts that are made of one wild number.
func outlinesOf(v int) [][][]api.Point {
	return [][][]api.Point{
		nil,
		{nil},
		{{}},
		{{{X: v, Y: v, Kind: v}}},
		{{{Kind: v}, {Kind: v}}},
		{{{X: v}, {Y: v}}, nil},
		{{{Kind: v}, {Kind: 2}, {Kind: v}, {Kind: 2}}},
		{{{X: v, Kind: 1}, {Y: v, Kind: 1}}},
	}
}

func nothing(e api.Errno, l []api.Segment) bool { return e == api.OK || len(l) == 0 }

func TestP1OutlinesOfAllNumbers(t *testing.T) {
	for _, v := range wild {
		for k, o := range outlinesOf(v) {
			first, a, b := glyph.Check(o)
			if (first == api.OK || first == api.ErrMany) && (a != 0 || b != 0) {
				t.Errorf("P1: Check of outline %d by %d = %d, %d, %d", k, v, first, a, b)
			}
			l, e := glyph.Segments(o)
			if e != first || !nothing(e, l) {
				t.Errorf("P1: Segments of outline %d by %d = %v, %d, but Check %d", k, v, l, e, first)
			}
		}
	}
}

func TestP1PlacesOfAllNumbers(t *testing.T) {
	for _, v := range wild {
		for _, w := range wild {
			m := api.Map{XX: v, XY: w, YX: w, YY: v, DX: w, DY: v}
			if p, e := glyph.Place(m, at(w, v)); e != api.OK && p != at(0, 0) {
				t.Errorf("P1: Place(%v, %d, %d) = %v, %d", m, w, v, p, e)
			}
		}
	}
}

func TestP1ChordsOfAllNumbers(t *testing.T) {
	for _, v := range wild {
		for _, w := range wild {
			for kind := -1; kind <= 3; kind++ {
				g := api.Segment{Kind: kind, From: at(v, w), First: at(w, v), Second: at(v, v), To: at(w, w)}
				if l, e := glyph.Curve(g); (e == api.OK) != (len(l) > 0) {
					t.Errorf("P1: Curve(%v) = %v, %d", g, l, e)
				}
			}
			if l, e := glyph.Cuts(at(v, w), at(w, v)); (e == api.OK) != (len(l) > 0) {
				t.Errorf("P1: Cuts = %v, %d", l, e)
			}
		}
		if l, e := glyph.Curve(api.Segment{Kind: v}); (e == api.OK) != (len(l) > 0) {
			t.Errorf("P1: Curve of the kind %d = %v, %d", v, l, e)
		}
	}
}

func TestP1RingsOfAllNumbers(t *testing.T) {
	for _, v := range wild {
		for k, o := range outlinesOf(v) {
			first, _, _ := glyph.Check(o)
			for _, w := range wild {
				m := api.Map{XX: w, XY: v, YX: v, YY: w, DX: v, DY: w}
				l, e := glyph.Trace(o, m)
				if first != api.OK && e != first || e != api.OK && len(l) != 0 || e == api.OK && len(l) != len(o) {
					t.Errorf("P1: Trace of outline %d by %d on %v = %v, %d, but Check %d", k, v, m, l, e, first)
				}
			}
		}
	}
}

// TestP1FirstNamed: where several errors apply, the one that is named first.
func TestP1FirstNamed(t *testing.T) {
	worst := make([][]api.Point, 17)
	worst[0] = []api.Point{{X: top, Kind: 7}}
	if e, a, b := glyph.Check(worst); e != api.ErrMany || a != 0 || b != 0 {
		t.Errorf("P1: Check = %d, %d, %d, want ErrMany, 0, 0", e, a, b)
	}
	if e, a, b := glyph.Check([][]api.Point{{on(top, 0), {Kind: 7}}}); e != api.ErrShape || a != 0 || b != 1 {
		t.Errorf("P1: Check = %d, %d, %d, want ErrShape, 0, 1", e, a, b)
	}
	bad := api.Map{XX: 65537, DX: 16384}
	if _, e := glyph.Place(bad, at(8193, 0)); e != api.ErrCoord {
		t.Errorf("P1: Place = %d, want ErrCoord", e)
	}
	if _, e := glyph.Place(bad, at(8192, 0)); e != api.ErrMap {
		t.Errorf("P1: Place = %d, want ErrMap", e)
	}
	if _, e := glyph.Curve(api.Segment{Kind: 3, From: at(top, 0)}); e != api.ErrShape {
		t.Errorf("P1: Curve = %d, want ErrShape", e)
	}
	if _, e := glyph.Trace(worst, bad); e != api.ErrMany {
		t.Errorf("P1: Trace = %d, want ErrMany", e)
	}
	if _, e := glyph.Trace([][]api.Point{{on(4096, 0), on(0, 0)}}, bad); e != api.ErrMap {
		t.Errorf("P1: Trace = %d, want ErrMap", e)
	}
}

// roomy: an outline of all kinds, with spare room behind the list of contours and behind each contour.
func roomy() [][]api.Point {
	o := make([][]api.Point, 4)
	o[0] = contourOf([]int{0, 1, 1, 0, 2, 2, 0, 0, 1, 1})[:8]
	o[1] = contourOf([]int{1, 1, 1, 9, 9, 9, 9})[:3]
	o[2] = contourOf([]int{0, 0})
	o[3] = contourOf([]int{1, 0})
	return o[:2]
}

func sameOutlines(a, b [][]api.Point) bool {
	if len(a) != len(b) || cap(a) != cap(b) {
		return false
	}
	a, b = a[:cap(a)], b[:cap(b)]
	for i := range a {
		c, d := a[i][:cap(a[i])], b[i][:cap(b[i])]
		if len(a[i]) != len(b[i]) || len(c) != len(d) {
			return false
		}
		for k := range c {
			if c[k] != d[k] {
				return false
			}
		}
	}
	return true
}

func TestP2NothingWrittenInto(t *testing.T) {
	o := roomy()
	if e, _, _ := glyph.Check(o); e != api.OK || !sameOutlines(o, roomy()) {
		t.Errorf("P2: Check = %d, left %v", e, o[:cap(o)])
	}
	if _, e := glyph.Segments(o); e != api.OK || !sameOutlines(o, roomy()) {
		t.Errorf("P2: Segments = %d, left %v", e, o[:cap(o)])
	}
	if _, e := glyph.Trace(o, plain); e != api.OK || !sameOutlines(o, roomy()) {
		t.Errorf("P2: Trace = %d, left %v", e, o[:cap(o)])
	}
	if _, e := glyph.Trace(o, huge); e != api.ErrRange || !sameOutlines(o, roomy()) {
		t.Errorf("P2: Trace = %d, left %v", e, o[:cap(o)])
	}
	// A refusal leaves things alone too.
	o[1][2].Kind = api.Cubic
	want := roomy()
	want[1][2].Kind = api.Cubic
	if _, e := glyph.Segments(o); e != api.ErrShape || !sameOutlines(o, want) {
		t.Errorf("P2: Segments = %d, left %v", e, o[:cap(o)])
	}
}

func TestP2FreshLists(t *testing.T) {
	o := roomy()
	want := append(wanted(o[0]), wanted(o[1])...)
	a, _ := glyph.Segments(o)
	b, _ := glyph.Segments(o)
	all := a[:cap(a)]
	for i := range all {
		all[i] = api.Segment{Kind: 99}
	}
	if !sameSegments(b, want) || !sameOutlines(o, roomy()) {
		t.Errorf("P2: a list that came out shares something: %v, want %v", b, want)
	}
	spare := b[len(b):cap(b)]
	for i := range spare {
		if spare[i] == (api.Segment{Kind: 99}) {
			t.Errorf("P2: two lists that came out share their spare room")
		}
	}
	if c, e := glyph.Segments(o); e != api.OK || !sameSegments(c, want) {
		t.Errorf("P2: an answer hangs on what was done to an earlier one: %v, %d", c, e)
	}
}

func TestP2NothingKept(t *testing.T) {
	o := roomy()
	l, _ := glyph.Segments(o)
	want := append(wanted(o[0]), wanted(o[1])...)
	for _, c := range o {
		for i := range c {
			c[i] = on(1, 1)
		}
	}
	if !sameSegments(l, want) {
		t.Errorf("P2: what came out changed with what was handed in: %v, want %v", l, want)
	}
	if e, a, b := glyph.Check([][]api.Point{{on(0, 0)}}); e != api.ErrShape || a != 0 || b != 1 {
		t.Errorf("P2: Check = %d, %d, %d", e, a, b)
	}
	if e, a, b := glyph.Check(roomy()); e != api.OK || a != 0 || b != 0 {
		t.Errorf("P2: Check hangs on an earlier call: %d, %d, %d", e, a, b)
	}
}

var marked = at(-99999, 99999)

// markAll: writes into a list and into its spare room.
func markAll(l []api.Spot) {
	l = l[:cap(l)]
	for i := range l {
		l[i] = marked
	}
}

func hasMark(l []api.Spot) bool {
	for _, s := range l[:cap(l)] {
		if s == marked {
			return true
		}
	}
	return false
}

func TestP2FreshChords(t *testing.T) {
	g := curve3(at(0, 0), at(0, 64), at(64, 64), at(64, 0))
	a, b := at(10, 20), at(1500, 1000)
	for _, x := range []struct {
		name  string
		one   func() []api.Spot
		wants []api.Spot
	}{
		{"Curve", func() []api.Spot { l, _ := glyph.Curve(g); return l }, curveWanted(g)},
		{"Curve of a Line", func() []api.Spot { l, _ := glyph.Curve(line(a, b)); return l }, []api.Spot{a, b}},
		{"Cuts", func() []api.Spot { l, _ := glyph.Cuts(a, b); return l }, cutsWanted(a, b)},
		{"Cuts without a cut", func() []api.Spot { l, _ := glyph.Cuts(a, a); return l }, []api.Spot{a, a}},
	} {
		first, second := x.one(), x.one()
		markAll(first)
		if !sameSpots(second, x.wants) || hasMark(second) {
			t.Errorf("P2: %s: a list that came out shares something: %v", x.name, second)
		}
		if third := x.one(); !sameSpots(third, x.wants) || hasMark(third) {
			t.Errorf("P2: %s: an answer hangs on what was done to an earlier one: %v", x.name, third)
		}
	}
}

func TestP2FreshRings(t *testing.T) {
	o := [][]api.Point{
		contourOf([]int{0, 1, 1, 0, 2, 2}), contourOf([]int{1, 1, 1}), contourOf([]int{0, 0}), contourOf([]int{0, 0, 0}),
	}
	for _, m := range []api.Map{plain, {XX: 9000, YY: 8000}, {}} {
		want, _ := traceWanted(o, m)
		for k := range o {
			a, e := glyph.Trace(o, m)
			b, f := glyph.Trace(o, m)
			if e != api.OK || f != api.OK || len(a) != len(o) {
				t.Fatalf("P2: Trace = %d, %d", e, f)
			}
			markAll(a[k])
			for i := range a {
				if i != k && (!sameSpots(a[i], want[i]) || hasMark(a[i])) {
					t.Errorf("P2: ring %d shares something with ring %d: %v", i, k, a[i])
				}
			}
			outer := a[:cap(a)]
			for i := range outer {
				outer[i] = []api.Spot{marked}
			}
			if !sameRings(b, want) || hasMark(b[k]) {
				t.Errorf("P2: two answers of Trace share something: %v, want %v", b, want)
			}
			spare := b[len(b):cap(b)]
			for i := range spare {
				if spare[i] != nil {
					t.Errorf("P2: two answers of Trace share their spare room")
				}
			}
		}
	}
}

func TestP2RingsKeepNothing(t *testing.T) {
	o := roomy()
	want, _ := traceWanted(o, plain)
	l, e := glyph.Trace(o, plain)
	for _, c := range o {
		for i := range c {
			c[i] = on(1, 1)
		}
	}
	if e != api.OK || !sameRings(l, want) {
		t.Errorf("P2: what came out changed with what was handed in: %v, want %v", l, want)
	}
}
