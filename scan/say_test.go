package scan_test

import (
	"strings"
	"testing"

	"colophon/api"
	"colophon/samples"
	"colophon/scan"
)

// answers holds what All tells of a source against what it has to, in words; and against what follows.
func answers(t *testing.T, source, want string) {
	t.Helper()
	if got := samples.AnswerWord(scan.All(source)); got != want {
		t.Errorf("All(%s) tells\n  %s, not\n  %s", samples.Short(source), got, want)
	}
	follows(t, source)
}

// kinds are an answer's kinds and texts alone, in words.
func kinds(source string) string {
	l, code, at := scan.All(source)
	var words []string
	for _, tok := range l {
		words = append(words, samples.KindWord(tok.Kind)+" "+tok.Text)
	}
	if code != api.OK || at != (api.Place{}) {
		words = append(words, samples.ErrorWord(code)+" at "+samples.PlaceWord(at))
	}
	return strings.Join(words, "; ")
}

// hasKinds holds an answer's kinds and texts, and by what follows the places and the Feeds.
func hasKinds(t *testing.T, source, want string) {
	t.Helper()
	if got := kinds(source); got != want {
		t.Errorf("All(%s) tells\n  %q, not\n  %q", samples.Short(source), got, want)
	}
	follows(t, source)
}
