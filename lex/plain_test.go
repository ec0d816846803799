package lex_test

import (
	"slices"
	"strings"
	"testing"

	"colophon/api"
	"colophon/char"
	"colophon/lex"
	"colophon/samples"
	"colophon/scan"
)

// The plain way: what is sure of what has come hangs on all of it, however it was cut: what scan.All tells of what is whole
// of it, but for its last token and an error at its end, which may not be sure.

// answer is what was told, all together; and how many bytes are held.
type answer struct {
	tokens []api.Tok
	code   api.Errno
	at     api.Place
	held   int
}

func (a answer) String() string {
	return samples.AnswerWord(a.tokens, a.code, a.at) + heldWord(a.held)
}

// sureOf is what has to be told of what has come.
func sureOf(come string) answer {
	whole := come[:char.Whole(come)]
	l, code, at := scan.All(whole)
	last := len(l) - 1
	switch {
	case code != api.OK && !metAtEnd(whole, code, at):
		return answer{tokens: l, code: code, at: at}
	case code != api.OK:
		return answer{tokens: l, held: len(come) - at.At}
	case last >= 0 && !isSure(whole, l[last]):
		return answer{tokens: l[:last], held: len(come) - l[last].Place.At}
	}
	return answer{tokens: l, held: len(come) - len(whole)}
}

// metAtEnd tells whether an error comes of a source's end alone: nothing in it ends or forbids the token.
func metAtEnd(whole string, code api.Errno, at api.Place) bool {
	return code == api.ErrScanOpen && (whole[at.At] == '{' || !strings.Contains(whole[at.At:], "\n"))
}

// isSure tells whether a source's last token is sure.
func isSure(whole string, tok api.Tok) bool {
	switch tok.Kind {
	case api.TokText, api.TokChar, api.TokBlock:
		return true
	case api.TokLine:
		return strings.Contains(whole[tok.Place.At:], "\n")
	}
	return tok.Place.At+len(tok.Text) < len(whole)
}

// course is a source, and what has to be told of each of its beginnings, by how many bytes it has; and of all of it, when it
// is closed.
type course struct {
	source string
	sure   []answer
	closed answer
}

// courseOf reckons it. Each beginning is gone through anew: it is not for long sources.
func courseOf(source string) *course {
	c := &course{source: source}
	for n := range len(source) + 1 {
		c.sure = append(c.sure, sureOf(source[:n]))
	}
	l, code, at := scan.All(source)
	c.closed = answer{tokens: l, code: code, at: at}
	return c
}

// between is what a call has to tell, ahead of which and with which so much was told.
func between(before, now answer) answer {
	if before.code != api.OK {
		return before.again()
	}
	return answer{now.tokens[len(before.tokens):], now.code, now.at, now.held}
}

// again is an error that was told, told again.
func (a answer) again() answer { return answer{code: a.code, at: a.at} }

// same tells whether an answer is this one, word by word.
func (a answer) same(b answer) bool {
	return slices.Equal(a.tokens, b.tokens) && a.code == b.code && a.at == b.at && a.held == b.held
}

func fed(l *lex.Lexer, s string) answer {
	tokens, code, at := l.Feed(s)
	return answer{tokens, code, at, l.Held()}
}

func ended(l *lex.Lexer) answer {
	tokens, code, at := l.Close()
	return answer{tokens, code, at, l.Held()}
}

// cut holds each call's answer, if the source is cut behind these bytes, rising; a number twice is a chunk of nothing.
func (c *course) cut(t *testing.T, behind ...int) {
	t.Helper()
	l := lex.New()
	last := 0
	for _, n := range append(behind, len(c.source)) {
		if got, want := fed(l, c.source[last:n]), between(c.sure[last], c.sure[n]); !got.same(want) {
			t.Fatalf("%s cut behind %d: Feed up to %d tells\n  %s, not\n  %s", samples.Short(c.source), behind, n, got, want)
		}
		last = n
	}
	if got, want := ended(l), between(c.sure[last], c.closed); !got.same(want) {
		t.Fatalf("%s cut behind %d: Close tells\n  %s, not\n  %s", samples.Short(c.source), behind, got, want)
	}
	isDone(t, l)
}

// bytewise holds it, if each byte comes by itself, with so many chunks of nothing ahead of each.
func (c *course) bytewise(t *testing.T, nothings int) {
	t.Helper()
	var behind []int
	for n := range len(c.source) {
		for range nothings + 1 {
			behind = append(behind, n)
		}
	}
	c.cut(t, behind...)
}

// inTwo holds it for each way to cut it into two chunks.
func (c *course) inTwo(t *testing.T) {
	t.Helper()
	for n := range len(c.source) + 1 {
		c.cut(t, n)
	}
}

// inThree holds it for each way to cut it into three.
func (c *course) inThree(t *testing.T) {
	t.Helper()
	for n := range len(c.source) + 1 {
		for m := n; m <= len(c.source); m++ {
			c.cut(t, n, m)
		}
	}
}

// allWays holds it for each way to cut it.
func (c *course) allWays(t *testing.T) {
	t.Helper()
	places := max(0, len(c.source)-1)
	for ways := range 1 << places {
		var behind []int
		for n := range places {
			if ways>>n&1 == 1 {
				behind = append(behind, n+1)
			}
		}
		c.cut(t, behind...)
	}
}

// isDone holds that it is closed.
func isDone(t *testing.T, l *lex.Lexer) {
	t.Helper()
	done := answer{code: api.ErrDone}
	if got := fed(l, "x "); !got.same(done) {
		t.Fatalf("Feed behind Close tells %s", got)
	}
	if got := ended(l); !got.same(done) {
		t.Fatalf("Close behind Close tells %s", got)
	}
	if got := fed(l, ""); !got.same(done) || l.Held() != 0 {
		t.Fatalf("Feed of nothing behind Close tells %s", got)
	}
}
