package check_test

import (
	"fmt"
	"testing"

	"colophon/api"
	"colophon/check"
	"colophon/format"
	"colophon/samples"
	"colophon/scan"
)

const (
	// head is what most sources here begin with.
	head = "program p;begin skip "
	// formed is the chapter's S, which is formatted already.
	formed = "program p;\nbegin\n  skip // x\nend.\n"
)

// answer is what a call tells: yes or no, or what is wrong.
type answer struct {
	yes   bool
	wrong string
}

func (a answer) String() string { return fmt.Sprint(a.yes, " ", a.wrong) }

var yes, no = answer{yes: true}, answer{}

func refused(wrong string) answer { return answer{wrong: wrong} }

func is(width int, source string) answer {
	yes, err := check.Is(width, source)
	return answer{yes, samples.FaultWord(err)}
}

func same(a, b string) answer {
	yes, err := check.Same(a, b)
	return answer{yes, samples.FaultWord(err)}
}

// holdsIs holds what Is tells of a source at a width.
func holdsIs(t *testing.T, width int, source string, want answer) {
	t.Helper()
	if got := is(width, source); got != want {
		t.Errorf("Is %s formatted at %d? %s, not %s", samples.Short(source), width, got, want)
	}
}

// holdsSame holds what Same tells of two sources that are taken, one way round and the other.
func holdsSame(t *testing.T, a, b string, want answer) {
	t.Helper()
	if got := same(a, b); got != want {
		t.Fatalf("Are they the same, %s and %s? %s, not %s", samples.Short(a), samples.Short(b), got, want)
	}
	if got := same(b, a); got != want {
		t.Fatalf("Are they the same, %s and %s? %s, not %s", samples.Short(b), samples.Short(a), got, want)
	}
}

// told is what format tells of a source that it takes.
func told(t testing.TB, width int, source string) string {
	t.Helper()
	s, err := format.Format(width, source)
	if err != nil {
		t.Fatalf("%s at %d: %v", samples.Short(source), width, err)
	}
	return s
}

// tokens are those of a source that has no error.
func tokens(source string) []api.Tok {
	l, code, at := scan.All(source)
	if code != api.OK {
		panic(fmt.Sprintf("%q: %s", source, samples.FaultAt(code, at)))
	}
	return l
}

// at puts a part ahead of one token of a source, or behind the last one.
func at(source string, place int, part string) string {
	return samples.Gapped(tokens(source), func(i int) string {
		if i == place {
			return part
		}
		return ""
	})
}
