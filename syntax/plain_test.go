package syntax_test

import (
	"sort"
	"testing"

	"colophon/api"
	"colophon/grammar"
)

func comment(t api.Tok) bool { return t.Kind == api.TokLine || t.Kind == api.TokBlock }

// plain is a plain second way: what Program must answer, as the promise says it, by asking the grammar what can stand.
func plain(g *grammar.Grammar, l []api.Tok) answer {
	var toks []api.Tok
	var places []int
	for i, tok := range l {
		if !comment(tok) {
			toks, places = append(toks, tok), append(places, i)
		}
	}
	// What begins a program has no beginning that does not.
	good := sort.Search(len(toks), func(i int) bool { return !g.Begins(toks[:i+1]) })
	if at := tooDeep(g, toks[:good]); at < good {
		return answer{code: api.ErrParseDeep, at: places[at]}
	}
	if good < len(toks) {
		return answer{code: api.ErrParseTok, at: places[good]}
	}
	events, ways := g.Events(toks)
	if ways == 0 {
		return answer{code: api.ErrParseEnd, at: len(l)}
	}
	at := 0
	return answer{n: noted(nested(events), l, &at)}
}

// tooDeep is the first token of those that begin a program around which more than 1000 nodes are; or how many there are.
func tooDeep(g *grammar.Grammar, l []api.Tok) int {
	// None opens more than five, so few of them need not be asked for.
	if len(l) > 150 {
		for i, deep := range depths(g, l) {
			if deep > 1000 {
				return i
			}
		}
	}
	return len(l)
}

// depths are how many nodes are around each token of those that begin a program.
func depths(g *grammar.Grammar, l []api.Tok) []int {
	events, _ := g.Events(g.Ended(l))
	var deep []int
	open := 0
	for _, e := range events {
		switch e.Kind {
		case api.Open:
			open++
		case api.Close:
			open--
		case api.Leaf:
			deep = append(deep, open)
		}
	}
	return deep[:len(l)]
}

// nested is the tree that events tell.
func nested(l []api.Event) api.Node {
	open := []api.Node{{}}
	for _, e := range l {
		last := len(open) - 1
		switch e.Kind {
		case api.Open:
			open = append(open, api.Node{Kind: e.Node})
		case api.Leaf:
			open[last].Kids = append(open[last].Kids, api.Node{Tok: e.Tok})
		case api.Close:
			open[last-1].Kids = append(open[last-1].Kids, open[last])
			open = open[:last]
		}
	}
	return open[0].Kids[0]
}

// noted is a tree with the comments that stand between its tokens, which are those of l from at on.
func noted(n api.Node, l []api.Tok, at *int) api.Node {
	with := api.Node{Kind: n.Kind}
	put := func() {
		for ; *at < len(l) && comment(l[*at]); *at++ {
			with.Kids = append(with.Kids, api.Node{Tok: l[*at]})
		}
	}
	put() // ahead of Program's first token; further in, all comments ahead stand already
	for _, kid := range n.Kids {
		if kid.Kind != 0 {
			with.Kids = append(with.Kids, noted(kid, l, at))
			continue
		}
		with.Kids = append(with.Kids, kid)
		*at++
		put()
	}
	return with
}

// holds that Program answers what the plain way does.
func holds(t *testing.T, g *grammar.Grammar, l []api.Tok) answer {
	t.Helper()
	want := plain(g, l)
	answers(t, l, want)
	return want
}

// The plain way is asked for what the chapter's examples say.
func TestPlain(t *testing.T) {
	g := grammar.New()
	for source, want := range map[string]string{
		"{1}program p{2}{3};begin skip{4}end.{5}": "{Program: {1}, program, p, {2}, {3}, ;, {Block: begin, {Body: {Skip: skip, {4}}}, end}, ., {5}}",
		"program p;begin f()end.":                 "{Program: program, p, ;, {Block: begin, {Body: {Act: {Object: f, {Args: (, )}}}}, end}, .}",
	} {
		if got := plain(g, tokens(source)); bare(got.n) != want || got.code != api.OK || got.at != 0 {
			t.Errorf("%s: %s", source, got)
		}
	}
	for source, want := range map[string]string{
		"":                       "ErrParseEnd, 0",
		"{a}":                    "ErrParseEnd, 1",
		"program{a}p;":           "ErrParseEnd, 4",
		"{a}begin":               "ErrParseTok, 1",
		"program{a}program;;":    "ErrParseTok, 2",
		"program p;begin a.{b}1": "ErrParseTok, 7",
	} {
		if got := plain(g, tokens(source)).String(); got != want {
			t.Errorf("%s: %s, not %s", source, got, want)
		}
	}
}
