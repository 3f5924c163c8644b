package picture

import "glyph/api"

// The words of a text that are always the same: what it begins with, and the greatest byte.
const (
	mark  = "P5"
	depth = "255"
)

// reader goes through a text. Once something is not as it should be it stays bad, so that Decode
// has to ask but once; at is never behind the end, bad or not.
type reader struct {
	text string
	at   int
	bad  bool
}

// Decode reads a picture from a text (P15).
func Decode(s string) (api.Gray, api.Errno) {
	if len(s) > api.MaxText {
		return api.Gray{}, api.ErrText
	}
	r := reader{text: s}
	r.word(mark)
	r.gap()
	w := r.side()
	r.gap()
	h := r.side()
	r.gap()
	r.word(depth)
	r.space()
	if r.bad || len(s)-r.at != w*h {
		return api.Gray{}, api.ErrText
	}
	return api.Gray{W: w, H: h, Pix: []byte(s[r.at:])}, api.OK
}

// word goes over a word that must stand here.
func (r *reader) word(want string) {
	if len(r.text)-r.at < len(want) || r.text[r.at:r.at+len(want)] != want {
		r.bad = true
		return
	}
	r.at += len(want)
}

// space goes over one space byte, which must stand here.
func (r *reader) space() {
	if r.at >= len(r.text) || !isSpace(r.text[r.at]) {
		r.bad = true
		return
	}
	r.at++
}

// gap goes over a gap: neither a space byte nor a remark begins what comes behind one, so that it
// takes all of them.
func (r *reader) gap() {
	r.space()
	for r.at < len(r.text) {
		if r.text[r.at] == '#' {
			r.remark()
		} else if isSpace(r.text[r.at]) {
			r.at++
		} else {
			return
		}
	}
}

// remark goes over a remark; its line feed belongs to it, and a text that ends without one is bad.
func (r *reader) remark() {
	for r.at < len(r.text) {
		c := r.text[r.at]
		r.at++
		if c == '\n' {
			return
		}
	}
	r.bad = true
}

// side goes over a number of columns or rows and tells it, or 0 if none that may be stands here.
func (r *reader) side() int {
	n := 0
	for r.at < len(r.text) && isDigit(r.text[r.at]) {
		n = 10*n + int(r.text[r.at]-'0')
		r.at++
		// Asked at each digit: a nought ahead is no side, and a long row of digits would overflow.
		if !IsSide(n) {
			break
		}
	}
	if !IsSide(n) {
		r.bad = true
		return 0
	}
	return n
}

func isDigit(c byte) bool {
	return c >= '0' && c <= '9'
}

func isSpace(c byte) bool {
	return c == ' ' || c == '\t' || c == '\n' || c == '\r'
}
