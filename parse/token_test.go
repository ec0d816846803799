package parse_test

import (
	"math"
	"slices"
	"testing"

	"colophon/api"
	"colophon/grammar"
	"colophon/parse"
	"colophon/samples"
)

// Of a name, a number, a text and a character the kind alone counts: any Text tells the same, and stands in the Leaf.
func TestP12_2KindsThatCountAlone(t *testing.T) {
	g := grammar.New()
	l := tokens("program p;var a:t;begin a(b,1,\"t\",'c').d:=2;for i:=3 to 'd' do skip end end.")
	c := courseOf(t, g, l)
	for i, tok := range l {
		if tok.Kind == api.TokKey || tok.Kind == api.TokSign {
			continue
		}
		for _, text := range samples.TokTexts() {
			other := course{tokens: slices.Clone(l), puts: slices.Clone(c.puts), close: c.close}
			other.tokens[i].Text = text
			other.puts[i].events = slices.Clone(c.puts[i].events)
			other.puts[i].events[len(c.puts[i].events)-1].Tok.Text = text
			other.holds(t)
		}
	}
}

// Places and Feeds count for nothing, and stand in the Leaf and in the Note as they were put.
func TestP12_2PlacesCountForNothing(t *testing.T) {
	l := tokens("program p;begin a:=1 end.{c}")
	want, _ := all(l)
	at := 0
	for i := range l {
		l[i].Place = api.Place{At: math.MaxInt - i, Line: -i, Column: math.MinInt + i}
		l[i].Feeds = -7 * i
		for want[at].Kind != api.Leaf && want[at].Kind != api.Note {
			at++
		}
		want[at].Tok = l[i]
		at++
	}
	if got, code := all(l); code != api.OK || !slices.Equal(got, want) {
		t.Errorf("%s, not %s", samples.EventsWord(got, code), samples.EventsWord(want, api.OK))
	}
}

// can are the tokens with which a row can go on, of all kinds with all texts. The grammar says the same of them.
func can(t *testing.T, g *grammar.Grammar, l []api.Tok) []api.Tok {
	t.Helper()
	var good []api.Tok
	for kind := range 256 {
		for _, text := range samples.TokTexts() {
			tok := api.Tok{Kind: api.TokKind(kind), Text: text}
			p := behind(t, l)
			depth := p.Depth()
			_, code := p.Put(tok)
			want := api.ErrParseTok
			if tok.Kind == api.TokLine || tok.Kind == api.TokBlock || g.Begins(append(l[:len(l):len(l)], tok)) {
				good = append(good, tok)
				want = api.OK
			}
			if code != want || code != api.OK && p.Depth() != depth {
				t.Errorf("%s behind %s: %s, and %d nodes", samples.TokWord(tok), texts(l), samples.ErrorWord(code), p.Depth())
			}
		}
	}
	return good
}

// A kind that is none of api's, and a word or a sign that the language has not, stands nowhere; nor does a word that is put
// as a sign, or a sign as a word.
func TestP12_2WhatStandsNowhere(t *testing.T) {
	g := grammar.New()
	for source, want := range map[string][]api.Tok{
		"":                                nil, // program is none of the texts
		"program p;begin skip":            {{Kind: api.TokKey, Text: "end"}, {Kind: api.TokSign, Text: ";"}},
		"program p;begin a[1":             {{Kind: api.TokKey, Text: "and"}, {Kind: api.TokSign, Text: "="}, {Kind: api.TokSign, Text: "-"}},
		"program p;begin a":               {{Kind: api.TokKey, Text: "end"}, {Kind: api.TokSign, Text: ";"}, {Kind: api.TokSign, Text: ":="}, {Kind: api.TokSign, Text: "."}, {Kind: api.TokSign, Text: "("}},
		"program p;var a":                 {{Kind: api.TokSign, Text: ":"}},
		"program p;var a:array[1":         {{Kind: api.TokKey, Text: "and"}, {Kind: api.TokSign, Text: "="}, {Kind: api.TokSign, Text: ".."}, {Kind: api.TokSign, Text: "-"}},
		"program p;":                      {{Kind: api.TokKey, Text: "begin"}},
		"program p;begin skip end":        {{Kind: api.TokSign, Text: "."}},
		"program p;begin skip end.":       nil,
		"program p;begin a:=":             {{Kind: api.TokKey, Text: "not"}, {Kind: api.TokSign, Text: "("}, {Kind: api.TokSign, Text: "-"}},
		"program p;proc f(a:t":            {{Kind: api.TokSign, Text: ";"}},
		"program p;proc f":                {{Kind: api.TokSign, Text: ";"}, {Kind: api.TokSign, Text: ":"}, {Kind: api.TokSign, Text: "("}},
		"program p;var a:record b:t":      {{Kind: api.TokKey, Text: "end"}, {Kind: api.TokSign, Text: ";"}},
		"program p;begin return":          {{Kind: api.TokKey, Text: "end"}, {Kind: api.TokKey, Text: "not"}, {Kind: api.TokSign, Text: ";"}, {Kind: api.TokSign, Text: "("}, {Kind: api.TokSign, Text: "-"}},
		"program p;begin repeat skip":     {{Kind: api.TokSign, Text: ";"}},
		"program p;begin begin skip end;": {{Kind: api.TokKey, Text: "begin"}},
	} {
		var got []api.Tok
		for _, tok := range can(t, g, tokens(source)) {
			if tok.Kind == api.TokKey || tok.Kind == api.TokSign {
				got = append(got, tok)
			} else if tok.Kind == 0 || tok.Kind > api.TokBlock {
				t.Errorf("%s stands behind %s", samples.TokWord(tok), source)
			}
		}
		less := func(a, b api.Tok) int {
			return 100*(int(a.Kind)-int(b.Kind)) + slices.Index(samples.TokTexts(), a.Text) - slices.Index(samples.TokTexts(), b.Text)
		}
		slices.SortFunc(want, less)
		if !slices.Equal(got, want) {
			t.Errorf("behind %s: %s, not %s", source, texts(got), texts(want))
		}
	}
}

// Each word and each sign of the language stands somewhere.
func TestP12_2EachWordAndSignStandsSomewhere(t *testing.T) {
	met := map[string]int{}
	for _, source := range append(samples.Programs(), "program p;begin a:=b>c and d>=e or f<=g and h#i end.") {
		events, _ := all(tokens(source))
		for _, e := range events {
			if e.Kind == api.Leaf {
				met[e.Tok.Text]++
			}
		}
	}
	for _, tok := range grammar.New().Words() {
		if tok.Kind != api.TokName && tok.Kind != api.TokNumber && met[tok.Text] == 0 {
			t.Errorf("%s was not met", tok.Text)
		}
	}
}

// notesHold that comments are Notes, and change nothing else, but that the first event comes with them.
func notesHold(t *testing.T, c course, l []api.Tok) {
	t.Helper()
	p := parse.New()
	at, depth := 0, 0
	for i, tok := range l {
		want := answer{events: []api.Event{{Kind: api.Note, Tok: tok}}, depth: depth}
		if tok.Kind != api.TokLine && tok.Kind != api.TokBlock {
			want = c.puts[at]
			at++
			if i >= at { // comments stand ahead of the first one
				want.events = slices.DeleteFunc(slices.Clone(want.events), isProgram)
			}
		} else if i == 0 {
			want.events = slices.Insert(want.events, 0, api.Event{Kind: api.Open, Node: api.Program})
			want.depth = 1
		}
		depth = want.depth
		if got := put(p, tok); !got.same(want) {
			t.Fatalf("%s\n at %d: %s, not %s", texts(l), i, got, want)
		}
	}
	if got := closed(p); !got.same(c.close) {
		t.Fatalf("%s\n at Close: %s, not %s", texts(l), got, c.close)
	}
	isOver(t, p)
}

func isProgram(e api.Event) bool { return e.Kind == api.Open && e.Node == api.Program }

// Comments ahead of the first token, between any two and behind the last one; one, and several.
func TestP12_5Comments(t *testing.T) {
	g := grammar.New()
	for _, source := range samples.Programs() {
		l := tokens(source)
		for end := range len(l) + 1 {
			c := courseOf(t, g, l[:end])
			for place := range end + 1 {
				for _, n := range []int{1, 3} {
					notesHold(t, c, samples.Noted(l[:end], func(at int) int {
						if at == place {
							return n
						}
						return 0
					}))
				}
			}
			notesHold(t, c, samples.Noted(l[:end], func(int) int { return 1 }))
			notesHold(t, c, samples.Noted(l[:end], func(at int) int { return at % 3 }))
			notesHold(t, c, samples.Noted(l[:end], func(at int) int { return (at + 2) % 3 }))
		}
	}
}

// A comment of any Text is one, and behind it the same tokens can stand.
func TestP12_5CommentsOfAnyText(t *testing.T) {
	for _, text := range samples.TokTexts() {
		for _, kind := range []api.TokKind{api.TokLine, api.TokBlock} {
			note := api.Tok{Kind: kind, Text: text, Feeds: 3}
			p := parse.New()
			want := answer{events: []api.Event{{Kind: api.Open, Node: api.Program}, {Kind: api.Note, Tok: note}}, depth: 1}
			if got := put(p, note); !got.same(want) {
				t.Errorf("%s, not %s", got, want)
			}
			want.events = want.events[1:]
			if got := put(p, note); !got.same(want) {
				t.Errorf("%s, not %s", got, want)
			}
			if got := put(p, api.Tok{Kind: api.TokKey, Text: "program"}).String(); got != "program [1]" {
				t.Error(got)
			}
		}
	}
}

// Where the tokens are wrong, the error is told at the same token, with comments or without.
func TestP12_5CommentsAndErrors(t *testing.T) {
	for source, want := range map[string]string{
		"{a};":                     "+Program note:{a} [1] | ErrParseTok [1] | ErrParseTok [0]",
		";{a}":                     "ErrParseTok [0] | ErrParseTok [0] | ErrParseTok [0]",
		"{a}{b}":                   "+Program note:{a} [1] | note:{b} [1] | ErrParseEnd [0]",
		"{a}program{b}begin{c}":    "+Program note:{a} [1] | program [1] | note:{b} [1] | ErrParseTok [1] | ErrParseTok [1] | ErrParseTok [0]",
		"program{b}p;{c}":          "+Program program [1] | note:{b} [1] | p [1] | ; [1] | note:{c} [1] | ErrParseEnd [0]",
		"program p{a};begin{a}end": "+Program program [1] | p [1] | note:{a} [1] | ; [1] | +Block begin [2] | note:{a} [2] | ErrParseTok [2] | ErrParseTok [0]",
		"program p;begin skip{a}":  "+Program program [1] | p [1] | ; [1] | +Block begin [2] | +Body +Skip skip [4] | note:{a} [4] | ErrParseEnd [0]",
	} {
		if got := said(tokens(source)); got != want {
			t.Errorf("%s: %s, not %s", source, got, want)
		}
	}
}
