// Package char is layer 1: characters of any bytes, as a range over a string sees them. See shared/doc/01-char.md.
package char

// badPoint is the point of a bad byte. A good character may have it too, so it alone tells nothing of good or bad.
const badPoint rune = 0xFFFD

// Next is the character that begins at a place: its point, how many bytes it has, whether it is good.
func Next(s string, at int) (int, int, bool) {
	if at < 0 || at >= len(s) {
		return 0, 0, false
	}
	point, size := first(s[at:])
	return int(point), size, isGood(point, size)
}

// Last is the character that ends ahead of a place.
//
// It need not go through the text from its front: a good character's first byte is never a later byte of another one,
// so a good character that ends here is one of the text's, whatever stands ahead.
func Last(s string, at int) (int, int, bool) {
	if at < 1 || at > len(s) {
		return 0, 0, false
	}
	head := s[:at]
	for n := 1; n <= 4 && n <= at; n++ {
		point, size, good := Next(head, at-n)
		if good && size == n {
			return point, size, true
		}
	}
	return int(badPoint), 1, false
}

// Points are the points of a text's characters.
func Points(s string) []int {
	l := make([]int, 0, Count(s))
	for _, r := range s {
		l = append(l, int(r))
	}
	return l
}

// Text is the text of points.
func Text(l []int) string {
	runes := make([]rune, 0, len(l))
	for _, n := range l {
		runes = append(runes, runeOf(n))
	}
	return string(runes)
}

// Places are where a text's characters begin.
func Places(s string) []int {
	l := make([]int, 0, Count(s))
	for i := range s {
		l = append(l, i)
	}
	return l
}

// Count is how many characters a text has.
func Count(s string) int {
	n := 0
	for range s {
		n++
	}
	return n
}

// Valid tells whether all characters of a text are good.
func Valid(s string) bool {
	for i, r := range s {
		if r != badPoint {
			continue
		}
		if _, _, good := Next(s, i); !good {
			return false
		}
	}
	return true
}

// Whole is how many bytes of a text can't become others by what comes behind it: all but its open end.
func Whole(s string) int {
	for n := 1; n <= 3 && n <= len(s); n++ {
		if isOpen(s[len(s)-n:]) {
			return len(s) - n
		}
	}
	return len(s)
}

// first is the first character of a text that is not empty. A range does not say how many bytes a character has;
// where the next one begins says it.
func first(s string) (rune, int) {
	point := badPoint
	for i, r := range s {
		if i > 0 {
			return point, i
		}
		point = r
	}
	return point, len(s)
}

// isGood tells a good FFFD from a bad byte: the good one has three bytes.
func isGood(point rune, size int) bool {
	return point != badPoint || size > 1
}

// runeOf looks at the number before it becomes a rune, which has fewer bits and would make a point of some that are none.
func runeOf(n int) rune {
	if n < 0 || n > 0x10FFFF || n >= 0xD800 && n <= 0xDFFF {
		return badPoint
	}
	return rune(n)
}

// isOpen tells whether a text is the beginning of a good character, and not all of it.
//
// Two ways to go on are enough: whatever row of good characters it began, its next byte may be the least of all
// later bytes (80) or the greatest (BF), and those behind may be either.
func isOpen(s string) bool {
	return goesOn(s, "\x80\x80\x80") || goesOn(s, "\xbf\xbf\xbf")
}

// goesOn tells whether a text, with that behind it, is the beginning of one good character that needs some of it.
func goesOn(s, behind string) bool {
	_, size, good := Next(s+behind, 0)
	return good && size > len(s)
}
