package lex_test

import (
	"fmt"
	"strings"
	"testing"

	"colophon/lex"
	"colophon/samples"
)

// heldWord tells what is held; nothing, if nothing is.
func heldWord(held int) string {
	if held == 0 {
		return ""
	}
	return fmt.Sprintf(" [%d]", held)
}

// plays holds what the calls tell of chunks, in words: of each Feed, and of Close at the end, the tokens and the error, and
// what is held behind it in brackets, with " | " between the calls. It holds the source, cut at each byte, too.
func plays(t *testing.T, want string, chunks ...string) {
	t.Helper()
	l := lex.New()
	var words []string
	for _, s := range chunks {
		words = append(words, fed(l, s).String())
	}
	words = append(words, ended(l).String())
	if got := strings.Join(words, " | "); got != want {
		t.Errorf("%q tell\n  %s, not\n  %s", chunks, got, want)
	}
	isDone(t, l)
	c := courseOf(strings.Join(chunks, ""))
	c.inTwo(t)
	c.bytewise(t, 0)
}

// kinds are what the calls tell of chunks, the tokens' kinds and texts alone, and errors without their places; with what is
// held. plays holds the rest of it.
func kinds(chunks ...string) string {
	l := lex.New()
	var words []string
	for _, s := range chunks {
		words = append(words, fed(l, s).kinds())
	}
	return strings.Join(append(words, ended(l).kinds()), " | ")
}

func (a answer) kinds() string {
	var words []string
	for _, tok := range a.tokens {
		words = append(words, samples.KindWord(tok.Kind)+" "+tok.Text)
	}
	if a.code != 0 {
		words = append(words, samples.ErrorWord(a.code))
	}
	return strings.Join(words, "; ") + heldWord(a.held)
}

// hasKinds holds them, and by the plain way places and Feeds.
func hasKinds(t *testing.T, want string, chunks ...string) {
	t.Helper()
	if got := kinds(chunks...); got != want {
		t.Errorf("%q tell\n  %q, not\n  %q", chunks, got, want)
	}
	c := courseOf(strings.Join(chunks, ""))
	c.inTwo(t)
	c.bytewise(t, 0)
}
