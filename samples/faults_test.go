package samples_test

import (
	"errors"
	"testing"

	"colophon/api"
	"colophon/samples"
)

// wrapped has a Fault in it, and is none.
type wrapped struct{ within error }

func (w wrapped) Error() string { return w.within.Error() }

func (w wrapped) Unwrap() error { return w.within }

func TestFaultWord(t *testing.T) {
	f := &api.Fault{Code: api.ErrParseEnd, Place: api.Place{At: 5, Line: 2, Column: 3}}
	for _, c := range []struct {
		err  error
		want string
	}{
		{nil, ""}, {f, "ErrParseEnd at 5 2:3"}, {&api.Fault{Code: api.ErrNil}, "ErrNil at 0 0:0"},
		{wrapped{f}, "no Fault: 2:3: error 121"}, {api.ErrNil, "no Fault: error 3"}, {errors.New("a"), "no Fault: a"}, {(*api.Fault)(nil), "no Fault: "}, {&api.Fault{}, "no Fault: 0:0: error 0"},
	} {
		if got := samples.FaultWord(c.err); got != c.want {
			t.Errorf("%q, not %q", got, c.want)
		}
	}
}

func TestEndOf(t *testing.T) {
	for source, want := range map[string]string{"": "0 1:1", "a": "1 1:2", "a\n": "2 2:1", "\n\nab": "4 3:3", "\n\u00e9\u65e5": "6 2:3", "\xc3": "1 1:2", "\xe6\x97": "2 1:3", "\xff\u00e9\n\xff\u00e9": "7 2:3"} {
		if got := samples.PlaceWord(samples.EndOf(source)); got != want {
			t.Errorf("%q: %s, not %s", source, got, want)
		}
	}
}
