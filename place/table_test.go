package place_test

import (
	"iter"
	"math"
	"unicode/utf8"

	"colophon/api"
	"colophon/samples"
)

func at(a, l, c int) api.Place { return api.Place{At: a, Line: l, Column: c} }

// parts are characters of every size, good ones and bad, some that look like a line's end and are none, and feeds: of
// these the texts are made. Some bad ones go on to a good one with what may stand behind them.
var parts = []string{
	"\n", "a", "\r", "\v", "\u0085", "\u2028", "\u00e9", "\u0301", "\u4e00", "\ufffd", "\U0001f600",
	"\xff", "\x80", "\x85", "\x8a", "\xe4\xb8", "\xc3", "\xf0\x9f", "\xed\xa0\x80",
}

// texts goes through all texts of at most so many parts.
func texts(most int) iter.Seq[string] { return samples.Texts(parts, most) }

// behind is the place behind a text, told the plain way: one character after the other, each of which moves it on.
func behind(p api.Place, s string) api.Place {
	for len(s) > 0 {
		_, size := utf8.DecodeRuneInString(s)
		p.At += size
		p.Column++
		if s[0] == 0x0a {
			p.Line++
			p.Column = 1
		}
		s = s[size:]
	}
	return p
}

// linesOf takes a text apart byte by byte.
func linesOf(s string) []string {
	l := []string{""}
	for i := 0; i < len(s); i++ {
		if s[i] == 0x0a {
			l = append(l, "")
			continue
		}
		l[len(l)-1] += s[i : i+1]
	}
	return l
}

// somePlaces are places to go on from: those of a source, and numbers that are none, up to those at which sums go round.
var somePlaces = []api.Place{
	at(0, 1, 1), at(5, 2, 3), at(1000, 1, 1001), at(0, 0, 0), at(-1, -1, -1), at(-7, 3, -2), at(3, -9, 5),
	at(math.MaxInt, math.MaxInt, math.MaxInt), at(math.MinInt, math.MinInt, math.MinInt),
	at(math.MaxInt-1, math.MaxInt, math.MaxInt-2), at(math.MaxInt, 1, 1), at(0, math.MaxInt, 1), at(0, 1, math.MaxInt),
}
