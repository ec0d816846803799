package notes_test

import (
	"strings"
	"testing"

	"colophon/api"
	"colophon/char"
	"colophon/lex"
	"colophon/samples"
)

// lexed are a source's tokens as the chunk by chunk lexer gives them, and what is wrong with it.
func lexed(source string) ([]api.Tok, string) {
	l := lex.New()
	toks, code, at := l.Feed(source)
	if code != api.OK {
		return nil, samples.FaultAt(code, at)
	}
	rest, code, at := l.Close()
	if code != api.OK {
		return nil, samples.FaultAt(code, at)
	}
	return append(toks, rest...), ""
}

// plainRemarks tells what Of has to, the plain way: a comment is what begins like one, and it is behind what ends in the
// line in which it begins.
func plainRemarks(source string) string {
	l, wrong := lexed(source)
	if wrong != "" {
		return wrong
	}
	var words []string
	ends := 0
	for _, tok := range l {
		if plainComment(tok) {
			words = append(words, remarkWord(api.Remark{Ahead: plainAhead(l, tok.Place.At), Text: tok.Text, Behind: tok.Place.Line == ends}))
		}
		ends = tok.Place.Line + strings.Count(tok.Text, "\n")
	}
	return strings.Join(words, "; ")
}

func plainComment(tok api.Tok) bool {
	return strings.HasPrefix(tok.Text, "{") || strings.HasPrefix(tok.Text, "//")
}

// plainAhead is how many tokens that are no comments stand ahead of a place.
func plainAhead(l []api.Tok, at int) int {
	n := 0
	for _, tok := range l {
		if tok.Place.At < at && !plainComment(tok) {
			n++
		}
	}
	return n
}

// plainStrip tells what Strip has to, the plain way: without tokens, by what the bytes begin.
func plainStrip(source string) answer {
	if _, wrong := lexed(source); wrong != "" {
		return answer{wrong: wrong}
	}
	var b strings.Builder
	for rest := source; rest != ""; {
		size, keep := plainPart(rest)
		b.WriteString(keep)
		rest = rest[size:]
	}
	return answer{text: b.String()}
}

// plainPart is how many bytes the part has that a source without an error begins with, and what is kept of it.
func plainPart(s string) (int, string) {
	switch {
	case s[0] == '{':
		return strings.Index(s, "}") + 1, " "
	case strings.HasPrefix(s, "//"):
		line, _, _ := strings.Cut(s, "\n")
		return len(strings.TrimRight(line, " \t\r")), ""
	case s[0] == '"':
		size := strings.Index(s[1:], "\"") + 2
		return size, s[:size]
	case s[0] == '\'':
		_, size, _ := char.Next(s, 1)
		return size + 2, s[:size+2]
	}
	return 1, s[:1]
}

// asPlain holds both calls against the plain way.
func asPlain(t *testing.T, source string) {
	t.Helper()
	if got, want := remarks(source), plainRemarks(source); got != want {
		t.Fatalf("Of(%s): %s, not %s", samples.Short(source), samples.Short(got), samples.Short(want))
	}
	if got, want := stripped(source), plainStrip(source); got != want {
		t.Fatalf("Strip(%s): %s, not %s", samples.Short(source), got, want)
	}
}
