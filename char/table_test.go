package char_test

import (
	"fmt"
	"iter"

	"colophon/samples"
)

// The document's table of good characters, written out once more and read byte by byte, so that the package is held
// against the document and not against a range over a string, of which it is made.

// span is the least and the greatest byte that may stand at a place.
type span struct{ low, high byte }

func (p span) has(b byte) bool { return b >= p.low && b <= p.high }

var goodRows = [][]span{
	{{0x00, 0x7f}},
	{{0xc2, 0xdf}, {0x80, 0xbf}},
	{{0xe0, 0xe0}, {0xa0, 0xbf}, {0x80, 0xbf}},
	{{0xe1, 0xec}, {0x80, 0xbf}, {0x80, 0xbf}},
	{{0xee, 0xef}, {0x80, 0xbf}, {0x80, 0xbf}},
	{{0xed, 0xed}, {0x80, 0x9f}, {0x80, 0xbf}},
	{{0xf0, 0xf0}, {0x90, 0xbf}, {0x80, 0xbf}, {0x80, 0xbf}},
	{{0xf1, 0xf3}, {0x80, 0xbf}, {0x80, 0xbf}, {0x80, 0xbf}},
	{{0xf4, 0xf4}, {0x80, 0x8f}, {0x80, 0xbf}, {0x80, 0xbf}},
}

// edgeBytes are those at which a span of the table begins or ends, and those beside them; BD makes FFFD of EF and BF.
var edgeBytes = []byte{
	0x00, 0x61, 0x7f, 0x80, 0x8f, 0x90, 0x9f, 0xa0, 0xbd, 0xbf, 0xc0, 0xc1, 0xc2, 0xdf,
	0xe0, 0xe1, 0xec, 0xed, 0xee, 0xef, 0xf0, 0xf1, 0xf3, 0xf4, 0xf5, 0xff,
}

// character is what is to be known of one.
type character struct {
	point, size int
	good        bool
}

func (c character) String() string { return fmt.Sprintf("(%x %d %v)", c.point, c.size, c.good) }

// isLater tells whether a byte may be in a good character only behind its first.
func isLater(b byte) bool { return b >= 0x80 && b <= 0xbf }

// fits tells whether the first bytes of the row may be s, and s is no longer than the row.
func fits(row []span, s string) bool {
	if len(s) > len(row) {
		return false
	}
	for i := 0; i < len(s); i++ {
		if !row[i].has(s[i]) {
			return false
		}
	}
	return true
}

// pointOf is the point of a good character, by the bits of its bytes.
func pointOf(s string) int {
	marks := [...]int{0, 0x00, 0xc0, 0xe0, 0xf0}
	point := int(s[0]) - marks[len(s)]
	for i := 1; i < len(s); i++ {
		point = point<<6 + int(s[i]) - 0x80
	}
	return point
}

// firstOf is the first character of a text that is not empty.
func firstOf(s string) character {
	for _, row := range goodRows {
		n := len(row)
		if n <= len(s) && fits(row, s[:n]) {
			return character{pointOf(s[:n]), n, true}
		}
	}
	return character{0xfffd, 1, false}
}

// charactersOf are the characters of a text, from its front on.
func charactersOf(s string) []character {
	var l []character
	for s != "" {
		c := firstOf(s)
		l = append(l, c)
		s = s[c.size:]
	}
	return l
}

// wholeOf is how many bytes a text has without its open end.
func wholeOf(s string) int {
	for n := 1; n <= 3 && n <= len(s); n++ {
		for _, row := range goodRows {
			if n < len(row) && fits(row, s[len(s)-n:]) {
				return len(s) - n
			}
		}
	}
	return len(s)
}

// edgeTexts goes through all texts of at most so many edge bytes.
func edgeTexts(most int) iter.Seq[string] {
	parts := make([]string, len(edgeBytes))
	for i, b := range edgeBytes {
		parts[i] = string([]byte{b})
	}
	return samples.Texts(parts, most)
}
