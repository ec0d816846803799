package whole_test

import (
	"testing"

	"colophon/api"
	"colophon/samples"
	"colophon/whole"
)

// of is the layout that words stand for.
func of(words string) []api.Doc { return samples.Layout(words) }

// printIs holds what is printed of a layout that may be.
func printIs(t *testing.T, columns int, l []api.Doc, want string) {
	t.Helper()
	if s, e := whole.Print(columns, l); s != want || e != api.OK {
		t.Errorf("Print(%d, %s) = %s, %d, not %s", columns, samples.Words(l), samples.Short(s), e, samples.Short(want))
	}
}

// refused holds that nothing is printed but an error.
func refused(t *testing.T, columns int, l []api.Doc, want api.Errno) {
	t.Helper()
	if s, e := whole.Print(columns, l); s != "" || e != want {
		t.Errorf("Print(%d, of %d pieces) = %s, %d, not %d", columns, len(l), samples.Short(s), e, want)
	}
}

// printed is what is printed of a layout that may be, where that is looked at in other ways.
func printed(t *testing.T, columns int, l []api.Doc) string {
	t.Helper()
	s, e := whole.Print(columns, l)
	if e != api.OK {
		t.Fatalf("Print(%d, %s) = %d", columns, samples.Words(l), e)
	}
	return s
}
