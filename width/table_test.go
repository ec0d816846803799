package width_test

import (
	"iter"
	"testing"

	"colophon/char"
	"colophon/samples"
)

// The document's words, as they stand there, so that the package's table is held against them and not against a copy
// of itself.
const (
	twoColumns = "1100 to 115F, 2E80 to 303E, 3041 to A4CF, AC00 to D7A3, F900 to FAFF, FE30 to FE6F, FF00 to FF60, FFE0 to FFE6, 1F300 to 1F64F, 1F900 to 1F9FF, or 20000 to 3FFFD"
	noColumns  = "300 to 36F, 200B to 200F, 20D0 to 20FF, FE00 to FE0F, or FE20 to FE2F"
)

// columnsOf is, by the document's words, how many columns each point has that has not one.
func columnsOf(t testing.TB) map[int]int {
	t.Helper()
	m := map[int]int{}
	for columns, words := range map[int]string{2: twoColumns, 0: noColumns} {
		points, err := samples.Points(words)
		if err != nil {
			t.Fatal(err)
		}
		for _, n := range points {
			m[n] = columns
		}
	}
	return m
}

// oracle tells how many columns a number has.
type oracle map[int]int

func (o oracle) of(n int) int {
	if columns, ok := o[n]; ok {
		return columns
	}
	return 1
}

// piece is a character of a text: where it ends, and its columns.
type piece struct{ end, columns int }

// piecesOf takes a text apart by package char; a bad character has one column whatever its point has.
func (o oracle) piecesOf(s string) []piece {
	var l []piece
	for at := 0; at < len(s); {
		point, size, good := char.Next(s, at)
		columns := 1
		if good {
			columns = o.of(point)
		}
		at += size
		l = append(l, piece{at, columns})
	}
	return l
}

func (o oracle) text(s string) int {
	n := 0
	for _, p := range o.piecesOf(s) {
		n += p.columns
	}
	return n
}

// cut looks at every beginning of whole characters, the longest first.
func (o oracle) cut(s string, most int) (string, int) {
	ends := []int{0}
	for _, p := range o.piecesOf(s) {
		ends = append(ends, p.end)
	}
	for i := len(ends) - 1; i > 0; i-- {
		if n := o.text(s[:ends[i]]); n <= most {
			return s[:ends[i]], n
		}
	}
	return "", 0
}

// parts are characters of every width and size, good ones and bad: of these the texts are made at which the calls are
// held against the oracle. Some bad ones go on to a good one with what may stand behind them.
var parts = []string{
	"a", "\n", "\u00e9", "\u0301", "\u200b", "\u4e00", "\ufffd", "\U0001f600", "\U00010000",
	"\xff", "\x80", "\xe4\xb8", "\xcc", "\xf0\x9f", "\xed\xa0\x80",
}

// texts goes through all texts of at most so many parts.
func texts(most int) iter.Seq[string] { return samples.Texts(parts, most) }
