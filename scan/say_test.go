package scan_test

import (
	"fmt"
	"strings"
	"testing"

	"colophon/api"
	"colophon/samples"
	"colophon/scan"
)

// kindWord is what a test calls a kind.
func kindWord(k api.TokKind) string {
	switch k {
	case api.TokName:
		return "Name"
	case api.TokKey:
		return "Key"
	case api.TokNumber:
		return "Number"
	case api.TokText:
		return "Text"
	case api.TokChar:
		return "Char"
	case api.TokSign:
		return "Sign"
	case api.TokLine:
		return "Line"
	case api.TokBlock:
		return "Block"
	}
	return fmt.Sprint("kind ", int(k))
}

func errorWord(e api.Errno) string {
	switch e {
	case api.OK:
		return "OK"
	case api.ErrScanByte:
		return "ErrScanByte"
	case api.ErrScanOpen:
		return "ErrScanOpen"
	case api.ErrScanText:
		return "ErrScanText"
	case api.ErrScanLong:
		return "ErrScanLong"
	}
	return fmt.Sprint("error ", int(e))
}

func placeWord(p api.Place) string { return fmt.Sprintf("%d %d:%d", p.At, p.Line, p.Column) }

// tokWord tells a token as the chapter's examples do: kind, text, place, Feeds.
func tokWord(t api.Tok) string {
	return fmt.Sprintf("%s %s %s %d", kindWord(t.Kind), samples.Short(t.Text), placeWord(t.Place), t.Feeds)
}

// answerWord tells an answer: the tokens, and an error with its place.
func answerWord(l []api.Tok, code api.Errno, at api.Place) string {
	var words []string
	for i, tok := range l {
		if i == 40 {
			words = append(words, fmt.Sprint(".. (", len(l), " tokens)"))
			break
		}
		words = append(words, tokWord(tok))
	}
	if code != api.OK || at != (api.Place{}) {
		words = append(words, errorWord(code)+" at "+placeWord(at))
	}
	return strings.Join(words, "; ")
}

// answers holds what All tells of a source against what it has to, in words; and against what follows.
func answers(t *testing.T, source, want string) {
	t.Helper()
	if got := answerWord(scan.All(source)); got != want {
		t.Errorf("All(%s) tells\n  %s, not\n  %s", samples.Short(source), got, want)
	}
	follows(t, source)
}

// kinds are an answer's kinds and texts alone, in words.
func kinds(source string) string {
	l, code, at := scan.All(source)
	var words []string
	for _, tok := range l {
		words = append(words, kindWord(tok.Kind)+" "+tok.Text)
	}
	if code != api.OK || at != (api.Place{}) {
		words = append(words, errorWord(code)+" at "+placeWord(at))
	}
	return strings.Join(words, "; ")
}

// hasKinds holds an answer's kinds and texts, and by what follows the places and the Feeds.
func hasKinds(t *testing.T, source, want string) {
	t.Helper()
	if got := kinds(source); got != want {
		t.Errorf("All(%s) tells\n  %q, not\n  %q", samples.Short(source), got, want)
	}
	follows(t, source)
}
