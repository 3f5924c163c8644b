package glyph_test

import (
	"fmt"
	"math/rand"
	"regexp"
	"strconv"
	"strings"
	"testing"

	"glyph/api"
	"glyph/glyph"
)

const (
	gapForm  = `[ \t\n\r](?:[ \t\n\r]|#[^\n]*\n)*`
	sideForm = `([1-9]|[1-5][0-9]|6[0-4])`
)

var textForm = regexp.MustCompile(`^P5` + gapForm + sideForm + gapForm + sideForm + gapForm + `255[ \t\n\r]`)

// decodeWanted: what a text should give, by the form of its head.
func decodeWanted(s string) (api.Gray, api.Errno) {
	l := textForm.FindStringSubmatch(s)
	if l == nil || len(s) > 8192 {
		return api.Gray{}, api.ErrText
	}
	w, _ := strconv.Atoi(l[1])
	h, _ := strconv.Atoi(l[2])
	pix := s[len(l[0]):]
	if len(pix) != w*h {
		return api.Gray{}, api.ErrText
	}
	return api.Gray{W: w, H: h, Pix: []byte(pix)}, api.OK
}

// checkDecode: tells too whether the text should be a picture.
func checkDecode(t *testing.T, s string) bool {
	t.Helper()
	want, f := decodeWanted(s)
	g, e := glyph.Decode(s)
	if e != f || !isPicture(g, want.W, want.H, want.Pix) {
		t.Errorf("P15: Decode(%.60q) of %d bytes = %v, %d, want %v, %d", s, len(s), g, e, want, f)
	}
	return f == api.OK
}

func TestP15Decode(t *testing.T) {
	for _, x := range []struct {
		s    string
		w, h int
		pix  string
	}{
		{"P5\n2 1\n255\nAB", 2, 1, "AB"},
		{"P5 #x\n2\t1 255 AB", 2, 1, "AB"},
		{"P5 1 2 255 AB", 1, 2, "AB"},
		{"P5\t1\r1\n255 \n", 1, 1, "\n"},
		{"P5 1 1 255\r\n", 1, 1, "\n"},
		{"P5 1 1 255\n#", 1, 1, "#"},
		{"P5 #\n#\n1 1 255 x", 1, 1, "x"},
		{"P5 #1 1 255 y\n1 1 255 x", 1, 1, "x"},
		{"P5 # \r# 2\n1 1 255 x", 1, 1, "x"},
		{"P5 1 #\n 1\r\n\t #2\n# 255\n255\t#", 1, 1, "#"},
		{"P5 1 4 255 255\n", 1, 4, "255\n"},
	} {
		if g, e := glyph.Decode(x.s); e != api.OK || !isPicture(g, x.w, x.h, []byte(x.pix)) {
			t.Errorf("P15: Decode(%q) = %v, %d, want %d, %d, %q", x.s, g, e, x.w, x.h, x.pix)
		}
		if !checkDecode(t, x.s) {
			t.Errorf("P15: the second reckoning refuses %q", x.s)
		}
	}
}

func TestP15NoPicture(t *testing.T) {
	for _, s := range []string{
		"", "P", "P5", "P5\n", "P5 2", "P5 2 1", "P5 2 1 255", "P5 2 1 255 ", "P5 2 1 255 A", "P5 2 1 255 ABC", "P5 02 1 255 AB", "P5 2 01 255 AB", "P5 2 1 0255 AB",
		"P4 2 1 255 AB", "p5 2 1 255 AB", " P5 2 1 255 AB", "#\nP5 2 1 255 AB", "P 5 2 1 255 AB", "P52 1 255 AB", "P5#\n2 1 255 AB", "P5 2#\n1 255 AB", "P5 2 1#\n255 AB", "P5 2 1 255#\nAB",
		"P5 2,1 255 AB", "P5 2 1255 AB", "P5 2\v1 255 AB", "P5 2\f1 255 AB", "P5 2\x001 255 AB", "P5 2\u00a01 255 AB", "P5 2\u00851 255 AB",
		"P5 2 1 255  AB", "P5 2 1 255\r\nAB", "P5 2 1 255 #\nAB", "P5 2 1 256 AB", "P5 2 1 25 AB", "P5 2 1 2555 AB", "P5 2 1 65535 AB", "P5 2 1 255AB", "P5 2 1 AB", "P5 1 255 A",
		"P5 # 2 1 255 AB", "P5 2 #1 255 AB", "P5 2 1 # 255 AB", "P5 #\r2 1 255 AB", "P5 #", "P5 2 1 #", "P5 2 1 255 #",
		"P5 -2 1 255 AB", "P5 +2 1 255 AB", "P5 2 -1 255 AB", "P5 0x2 1 255 AB", "P5 2. 1 255 AB", "P5 2_ 1 255 AB", "P5 two 1 255 AB", "P5 \u0662 1 255 AB", "P5 0 0 255 ", "P5 0 1 255 ", "P5 1 0 255 ", "P5 0 255 ",
		"P5 4294967297 1 255 A", "P5 1 4294967297 255 A", "P5 18446744073709551617 1 255 A", "P5 1 18446744073709551617 255 A",
		"P5 " + strings.Repeat("1", 8000) + " 1 255 A", "P5 " + strings.Repeat("0", 8000) + "1 1 255 A",
	} {
		if g, e := glyph.Decode(s); e != api.ErrText || !isNoPicture(g) {
			t.Errorf("P15: Decode(%.60q) = %v, %d, want ErrText", s, g, e)
		}
		if checkDecode(t, s) {
			t.Errorf("P15: the second reckoning lets %.60q pass", s)
		}
	}
}

// TestP15EverySize: all columns and rows, those that may not be too, with just as many bytes, one
// more and one less.
func TestP15EverySize(t *testing.T) {
	bytes := string(grayOf(64, 64).Pix) + strings.Repeat("z", 70*70-64*64+1)
	fair := 0
	for w := 0; w <= 70; w++ {
		for h := 0; h <= 70; h++ {
			head := fmt.Sprintf("P5 %d %d 255 ", w, h)
			for n := max(w*h-1, 0); n <= w*h+1; n++ {
				if checkDecode(t, head+bytes[:n]) {
					fair++
				}
			}
		}
	}
	if fair != 64*64 {
		t.Errorf("P15: %d sizes are fair", fair)
	}
}

// TestP15EveryNumber: all rows of up to three digits, and some longer ones, as W and as H.
func TestP15EveryNumber(t *testing.T) {
	var numbers []string
	for n := 0; n < 1000; n++ {
		numbers = append(numbers, fmt.Sprintf("%d", n), fmt.Sprintf("%02d", n), fmt.Sprintf("%03d", n))
	}
	for n := -70; n <= 70; n++ {
		numbers = append(numbers, fmt.Sprintf("%+d", n), fmt.Sprintf("%d0", n), fmt.Sprintf("%04d", n), fmt.Sprintf("1%09d", n), fmt.Sprint(1<<32+n), fmt.Sprintf("184467440737095516%d", 16+n))
	}
	for _, number := range numbers {
		n, _ := strconv.Atoi(number)
		for _, bytes := range []int{1, min(max(n, 0), 70), 16, 64} {
			pix := strings.Repeat("x", bytes)
			checkDecode(t, "P5 "+number+" 1 255 "+pix)
			checkDecode(t, "P5 1 "+number+" 255 "+pix)
		}
	}
}

// shortRows: all rows of up to n of these strings.
func shortRows(n int, of ...string) []string {
	all := []string{""}
	for from := 0; n > 0; n-- {
		to := len(all)
		for _, row := range all[from:to] {
			for _, c := range of {
				all = append(all, row+c)
			}
		}
		from = to
	}
	return all
}

// TestP15EveryGap: all short rows of the bytes that a gap is made of, and of some that it is not,
// ahead of each part of a text and behind the last one.
func TestP15EveryGap(t *testing.T) {
	gaps := shortRows(5, " ", "\t", "\n", "\r", "#", "x", "\xff")
	for k := 0; k <= 5; k++ {
		fair := 0
		for _, g := range gaps {
			between := []string{"", " ", "\n", "\t", "\r", ""}
			between[k] = g
			s := between[0] + "P5" + between[1] + "1" + between[2] + "2" + between[3] + "255" + between[4] + "AB" + between[5]
			if checkDecode(t, s) {
				fair++
			}
		}
		// Only ahead of the numbers may there be more than one byte; behind 255 any of the four.
		if least := []int{1, 1365, 1365, 1365, 4, 1}[k]; fair < least || least < 5 && fair > least {
			t.Errorf("P15: %d gaps are fair ahead of part %d", fair, k)
		}
	}
}

// TestP15EveryByte: each byte in the place of each one of some texts, and put in ahead of it; and
// each byte left out.
func TestP15EveryByte(t *testing.T) {
	for _, s := range []string{"P5\n2 1\n255\nAB", "P5 #x\n2\t1 255 AB", "P5\r10 #y\n\n 1 # \n255 0123456789", "P5 1 64 255 " + strings.Repeat("#\n", 32)} {
		if !checkDecode(t, s) {
			t.Errorf("P15: the second reckoning refuses %q", s)
		}
		for b := 0; b < 256; b++ {
			checkDecode(t, s+string([]byte{byte(b)}))
		}
		for k := range s {
			checkDecode(t, s[:k])
			checkDecode(t, s[k:])
			checkDecode(t, s[:k]+s[k+1:])
			for b := 0; b < 256; b++ {
				c := string([]byte{byte(b)})
				checkDecode(t, s[:k]+c+s[k+1:])
				checkDecode(t, s[:k]+c+s[k:])
			}
		}
	}
}

// TestP15Drawn: texts of parts in any order, many of which are pictures.
func TestP15Drawn(t *testing.T) {
	r := rand.New(rand.NewSource(15))
	odd := []string{"P5", "255", "1", "2", "0", "64", "65", " ", "\n", "\t", "\r", "#", "#\n", "# 1 1\n", "", "A", "\x00", "\xff", "\v"}
	gap := func() string {
		s := " "
		for r.Intn(3) > 0 {
			s += []string{" ", "\n", "\t", "\r", "#\n", "#1 #\r\n", "# \xfe\n"}[r.Intn(7)]
		}
		return s
	}
	fair := 0
	for i := 0; i < 100000; i++ {
		w, h := 1+r.Intn(5), 1+r.Intn(5)
		l := []string{"P5", gap(), strconv.Itoa(w), gap(), strconv.Itoa(h), gap(), "255", string(" \t\n\r"[r.Intn(4)]), strings.Repeat("#", w*h)}
		for r.Intn(2) > 0 {
			l[r.Intn(len(l))] = odd[r.Intn(len(odd))]
		}
		if checkDecode(t, strings.Join(l, "")) {
			fair++
		}
	}
	if fair < 10000 {
		t.Errorf("P15: %d texts are fair", fair)
	}
}

// TestP15Longest: texts of 8192 bytes and beside that, made so long by what may be of any length.
func TestP15Longest(t *testing.T) {
	large := string(grayOf(64, 64).Pix)
	for n := 8190; n <= 8194; n++ {
		for k, x := range []struct{ head, fill, tail string }{
			{"P5 #", "x", "\n1 1 255 x"},
			{"P5 ", " ", "1 1 255 x"},
			{"P5 1 #", "#", "\n1 255 x"},
			{"P5 1 1\n", "\n", "255 x"},
			{"P5 1\t", "#\n", "\n1 255 x"},
			{"P5 #", "x", "\n64 64 255 " + large},
			{"P5 64 64\r", "\r", "255 " + large},
		} {
			s := x.head + strings.Repeat(x.fill, n)[:n-len(x.head)-len(x.tail)] + x.tail
			if len(s) != n || checkDecode(t, s) && n > 8192 {
				t.Errorf("P15: text %d has %d bytes, want %d", k, len(s), n)
			}
		}
	}
	for _, s := range []string{strings.Repeat("x", 8193), strings.Repeat(" ", 1<<20), strings.Repeat("P5 ", 1<<18), "P5 1 1 255 " + strings.Repeat("x", 8182)} {
		if g, e := glyph.Decode(s); e != api.ErrText || !isNoPicture(g) {
			t.Errorf("P15: Decode(%.20q) of %d bytes = %v, %d, want ErrText", s, len(s), g, e)
		}
	}
	// At 8192 it is a picture still.
	if g, e := glyph.Decode("P5 " + strings.Repeat("\t", 8180) + "1 1 255 x"); e != api.OK || !isPicture(g, 1, 1, []byte("x")) {
		t.Errorf("P15: Decode of 8192 bytes = %v, %d", g, e)
	}
}

// TestP15Back: what Encode writes gives the same picture.
func TestP15Back(t *testing.T) {
	for w := 1; w <= 64; w++ {
		for h := 1; h <= 64; h++ {
			g := grayOf(w, h)
			s, e := glyph.Encode(g)
			back, f := glyph.Decode(s)
			if e != api.OK || f != api.OK || !isPicture(back, w, h, g.Pix) {
				t.Fatalf("P15: %d columns and %d rows come back as %v, %d, %d", w, h, back, e, f)
			}
		}
	}
}
