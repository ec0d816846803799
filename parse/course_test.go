package parse_test

import (
	"testing"

	"colophon/api"
	"colophon/grammar"
	"colophon/parse"
	"colophon/samples"
)

// course is a plain second way: what the calls must tell of tokens that a program begins with, as the grammar says it.
type course struct {
	tokens []api.Tok // without comments
	puts   []answer  // of each token
	close  answer
}

// courseOf asks the grammar for a program that begins so: how many of its events a token has does not hang on those
// behind it.
func courseOf(t *testing.T, g *grammar.Grammar, l []api.Tok) course {
	t.Helper()
	whole := g.Ended(l)
	events, ways := g.Events(whole)
	if ways != 1 {
		t.Fatalf("%d ways to have %s", ways, texts(whole))
	}
	c := course{tokens: l, close: answer{code: api.ErrParseEnd}}
	depth, at := 0, 0
	for i, e := range events {
		switch e.Kind {
		case api.Open:
			depth++
		case api.Close:
			depth--
		case api.Leaf:
			if len(c.puts) < len(l) {
				c.puts = append(c.puts, answer{events: events[at : i+1], depth: depth})
			}
			at = i + 1
		}
	}
	if len(whole) == len(l) {
		c.close = answer{events: events[at:]}
	}
	return c
}

// holds that the calls go so.
func (c course) holds(t *testing.T) {
	t.Helper()
	p := parse.New()
	if p.Depth() != 0 {
		t.Errorf("%d nodes are open in a new one", p.Depth())
	}
	for i, tok := range c.tokens {
		if got := put(p, tok); !got.same(c.puts[i]) {
			t.Fatalf("%s\n at %d: %s, not %s", texts(c.tokens), i, got, c.puts[i])
		}
	}
	if got := closed(p); !got.same(c.close) {
		t.Fatalf("%s\n at Close: %s, not %s", texts(c.tokens), got, c.close)
	}
	isOver(t, p)
}

// lastHolds that the last of the calls goes so; those ahead of it were held.
func (c course) lastHolds(t *testing.T) {
	t.Helper()
	last := len(c.tokens) - 1
	p := behind(t, c.tokens[:last])
	if got := put(p, c.tokens[last]); !got.same(c.puts[last]) {
		t.Fatalf("%s\n at the last: %s, not %s", texts(c.tokens), got, c.puts[last])
	}
	if got := closed(p); !got.same(c.close) {
		t.Fatalf("%s\n at Close: %s, not %s", texts(c.tokens), got, c.close)
	}
}

// sorts are a token of each sort of the language, and some that stand nowhere.
func sorts(g *grammar.Grammar) []api.Tok {
	return append(g.Words(), samples.Nowhere()...)
}

// growing holds what the last call tells of each row that has such tokens, which begin a program, and at most so many more,
// whatever they are. It is how many rows these are, and how many of them begin a program.
func growing(t *testing.T, g *grammar.Grammar, l []api.Tok, more int) (rows, good int) {
	if more == 0 || t.Failed() {
		return 0, 0
	}
	ahead := behind(t, l).Depth()
	for _, tok := range sorts(g) {
		rows++
		longer := append(l[:len(l):len(l)], tok)
		if !g.Begins(longer) {
			p := behind(t, l)
			if got, want := put(p, tok), (answer{code: api.ErrParseTok, depth: ahead}); !got.same(want) {
				t.Fatalf("%s\n and then %s: %s, not %s", texts(l), samples.TokWord(tok), got, want)
			}
			isStuck(t, p, api.ErrParseTok, ahead)
			continue
		}
		good++
		courseOf(t, g, longer).lastHolds(t)
		moreRows, moreGood := growing(t, g, longer, more-1)
		rows, good = rows+moreRows, good+moreGood
	}
	return rows, good
}
