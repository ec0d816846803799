package report_test

import (
	"strings"
	"testing"

	"colophon/api"
	"colophon/report"
	"colophon/samples"
)

// at is a Fault with the number 100 at a line and a column.
func at(line, column int) *api.Fault {
	return &api.Fault{Code: api.ErrScanByte, Place: api.Place{Line: line, Column: column}}
}

// held is an error that holds another one, and says something else.
type held struct{ why error }

func (h held) Error() string { return "held" }

func (h held) Unwrap() error { return h.why }

// giver is an error that holds nothing and gives a Fault when it is asked for one; gives: whether it says that it did.
type giver struct {
	fault *api.Fault
	gives bool
}

func (g giver) Error() string { return "giver" }

func (g giver) As(target any) bool {
	if t, ok := target.(**api.Fault); ok {
		*t = g.fault
	}
	return g.gives
}

// told is lines, each with its end.
func told(lines ...string) string { return strings.Join(lines, "\n") + "\n" }

// holds holds what Show tells of an error.
func holds(t *testing.T, name, s string, err error, want string) {
	t.Helper()
	if got := report.Show(name, s, err); got != want {
		t.Errorf("Show(%q, %s, %v): %s, not %s", name, samples.Short(s), err, samples.Short(got), samples.Short(want))
	}
}

// holdsAt holds what Show tells of a Fault at a line and a column, behind the first line.
func holdsAt(t *testing.T, s string, line, column int, want ...string) {
	t.Helper()
	f := at(line, column)
	holds(t, "f", s, f, told(append([]string{"f: " + f.Error()}, want...)...))
}
