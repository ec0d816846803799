package samples_test

import (
	"testing"

	"colophon/format"
	"colophon/samples"
)

func TestWrongs(t *testing.T) {
	for _, c := range samples.Wrongs() {
		if _, err := format.Layout(c.Source); samples.FaultWord(err) != c.Want {
			t.Errorf("%s: %s, not %s", samples.Short(c.Source), samples.FaultWord(err), c.Want)
		}
	}
}
