package report_test

import (
	"fmt"
	"strings"
	"testing"
	"unicode/utf8"

	"colophon/api"
	"colophon/report"
	"colophon/samples"
	"colophon/width"
)

// plainLine is a line taken apart byte by byte: its characters as they are shown.
func plainLine(line string) []string {
	var l []string
	for line != "" {
		point, size := utf8.DecodeRuneInString(line)
		switch {
		case point == utf8.RuneError && size == 1:
			l = append(l, "\xef\xbf\xbd")
		case size == 1 && (line[0] < ' ' || line[0] == 0x7f):
			l = append(l, " ")
		default:
			l = append(l, line[:size])
		}
		line = line[size:]
	}
	return l
}

// plainShow tells what Show has to of a Fault, the plain way: the characters ahead of the mark one by one.
func plainShow(name, s string, f api.Fault) string {
	head := fmt.Sprintf("%s: %d:%d: error %d\n", name, f.Place.Line, f.Place.Column, int(f.Code))
	lines := strings.Split(s, "\n")
	if f.Place.Line < 1 || f.Place.Line > len(lines) {
		return head
	}
	l := plainLine(lines[f.Place.Line-1])
	if f.Place.Column < 1 || f.Place.Column-1 > len(l) {
		return head
	}
	mark := "  "
	for _, c := range l[:f.Place.Column-1] {
		point, _ := utf8.DecodeRuneInString(c)
		mark += "  "[:width.Of(int(point))]
	}
	return head + "  " + strings.Join(l, "") + "\n" + mark + "^\n"
}

// asPlain holds Show against the plain way, at a place.
func asPlain(t *testing.T, name, s string, line, column int) {
	t.Helper()
	f := at(line, column)
	if got, want := report.Show(name, s, f), plainShow(name, s, *f); got != want {
		t.Fatalf("Show(%q, %s, %v): %s, not %s", name, samples.Short(s), f, samples.Short(got), samples.Short(want))
	}
}

// asPlainEverywhere holds it at each line and column that a source has, and beside them.
func asPlainEverywhere(t *testing.T, s string) {
	t.Helper()
	lines := strings.Split(s, "\n")
	for n := -1; n <= len(lines)+2; n++ {
		columns := 0
		if n >= 1 && n <= len(lines) {
			columns = len(lines[n-1])
		}
		for column := -1; column <= columns+3; column++ {
			asPlain(t, "f", s, n, column)
		}
	}
}
