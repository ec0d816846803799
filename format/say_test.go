package format_test

import (
	"fmt"
	"slices"
	"testing"

	"colophon/api"
	"colophon/format"
	"colophon/samples"
	"colophon/scan"
)

// head is what most sources here begin with.
const head = "program p;begin skip "

// tokens are those of a source that has no error, as a scanner gives them.
func tokens(source string) []api.Tok {
	l, code, at := scan.All(source)
	if code != api.OK {
		panic(fmt.Sprintf("%q: %s at %s", source, samples.ErrorWord(code), samples.PlaceWord(at)))
	}
	return l
}

// answer is what a call tells: a layout or a text, or what is wrong.
type answer struct {
	laid  []api.Doc
	text  string
	wrong string
}

func (a answer) same(b answer) bool {
	return a.text == b.text && a.wrong == b.wrong && slices.Equal(a.laid, b.laid)
}

func (a answer) String() string {
	word := a.wrong
	if len(a.laid) > 0 {
		word += samples.Words(a.laid)
	}
	if a.text != "" {
		word += samples.Short(a.text)
	}
	return word
}

func layout(source string) answer {
	l, err := format.Layout(source)
	return answer{laid: l, wrong: samples.FaultWord(err)}
}

func formatted(width int, source string) answer {
	s, err := format.Format(width, source)
	return answer{text: s, wrong: samples.FaultWord(err)}
}

// wrong is a source, and what is wrong with it.
type wrong struct{ source, want string }

// refuses holds what is wrong with a source: Layout tells it, and nothing else, and Format does, at each width.
func refuses(t *testing.T, c wrong) {
	t.Helper()
	if got := layout(c.source); !got.same(answer{wrong: c.want}) {
		t.Errorf("Layout of %s: %s, not %s", samples.Short(c.source), got, c.want)
	}
	for _, width := range []int{1, 72, api.MaxWidth} {
		if got := formatted(width, c.source); !got.same(answer{wrong: c.want}) {
			t.Errorf("Format of %s at %d: %s, not %s", samples.Short(c.source), width, got, c.want)
		}
	}
}
