package parse_test

import (
	"fmt"
	"slices"
	"strings"
	"testing"

	"colophon/api"
	"colophon/parse"
	"colophon/samples"
	"colophon/scan"
)

// tokens are those of a source that has no error, as a scanner gives them: with their places and their Feeds.
func tokens(source string) []api.Tok {
	l, code, at := scan.All(source)
	if code != api.OK {
		panic(fmt.Sprintf("%q: %s at %s", source, samples.ErrorWord(code), samples.PlaceWord(at)))
	}
	return l
}

// texts are tokens as a test that fails tells them.
func texts(l []api.Tok) string {
	var words []string
	for i, tok := range l {
		if i == 200 {
			words = append(words, fmt.Sprintf(".. (%d tokens)", len(l)))
			break
		}
		words = append(words, tok.Text)
	}
	return strings.Join(words, " ")
}

// answer is what a call told, and what Depth tells behind it.
type answer struct {
	events []api.Event
	code   api.Errno
	depth  int
}

func (a answer) same(b answer) bool {
	return slices.Equal(a.events, b.events) && a.code == b.code && a.depth == b.depth
}

func (a answer) String() string {
	return strings.TrimSpace(fmt.Sprintf("%s [%d]", samples.EventsWord(a.events, a.code), a.depth))
}

func put(p *parse.Parser, t api.Tok) answer {
	events, code := p.Put(t)
	return answer{events, code, p.Depth()}
}

func closed(p *parse.Parser) answer {
	events, code := p.Close()
	return answer{events, code, p.Depth()}
}

// behind is a parser to which tokens were put, all of them OK.
func behind(t *testing.T, l []api.Tok) *parse.Parser {
	t.Helper()
	p := parse.New()
	for i, tok := range l {
		if _, code := p.Put(tok); code != api.OK {
			t.Fatalf("%s: %s at the token %d", texts(l), samples.ErrorWord(code), i)
		}
	}
	return p
}

// said is what the calls tell of tokens, and of Close at the end, with " | " between them.
func said(l []api.Tok) string {
	p := parse.New()
	var words []string
	for _, tok := range l {
		words = append(words, put(p, tok).String())
	}
	return strings.Join(append(words, closed(p).String()), " | ")
}

// all are the events of a program, one behind the other, and what is wrong with it.
func all(l []api.Tok) ([]api.Event, api.Errno) {
	p := parse.New()
	var events []api.Event
	for _, tok := range l {
		more, code := p.Put(tok)
		events = append(events, more...)
		if code != api.OK {
			return events, code
		}
	}
	more, code := p.Close()
	return append(events, more...), code
}

// isOver holds that nothing can come any more: each call tells ErrDone.
func isOver(t *testing.T, p *parse.Parser) {
	t.Helper()
	want := answer{code: api.ErrDone}
	for range 2 {
		for _, tok := range []api.Tok{{}, {Kind: api.TokKey, Text: "program"}, {Kind: api.TokBlock, Text: "{}"}} {
			if got := put(p, tok); !got.same(want) {
				t.Errorf("Put behind Close: %s", got)
			}
		}
		if got := closed(p); !got.same(want) {
			t.Errorf("Close behind Close: %s", got)
		}
	}
}

// isStuck holds that an error is told again, with as many nodes open as ahead of it; and that Close closes.
func isStuck(t *testing.T, p *parse.Parser, code api.Errno, depth int) {
	t.Helper()
	want := answer{code: code, depth: depth}
	for _, tok := range []api.Tok{{}, {Kind: api.TokName, Text: "a"}, {Kind: api.TokKey, Text: "program"}, {Kind: api.TokSign, Text: ";"}, {Kind: api.TokLine, Text: "//"}} {
		if got := put(p, tok); !got.same(want) {
			t.Errorf("Put behind an error: %s, not %s", got, want)
		}
	}
	want.depth = 0
	if got := closed(p); !got.same(want) {
		t.Errorf("Close behind an error: %s, not %s", got, want)
	}
	isOver(t, p)
}
