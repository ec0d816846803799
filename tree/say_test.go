package tree_test

import (
	"slices"
	"strings"
	"testing"

	"colophon/api"
	"colophon/class"
	"colophon/samples"
	"colophon/tree"
)

// tok is the token that a word stands for: a comment as it is written, a word of the language, or a name.
func tok(word string) api.Tok {
	switch {
	case strings.HasPrefix(word, "//"):
		return api.Tok{Kind: api.TokLine, Text: word}
	case strings.HasPrefix(word, "{"):
		return api.Tok{Kind: api.TokBlock, Text: word}
	case class.IsKey(word):
		return api.Tok{Kind: api.TokKey, Text: word}
	}
	return api.Tok{Kind: api.TokName, Text: word}
}

// placed is that token at a place of its own.
func placed(word string, at int) api.Tok {
	t := tok(word)
	t.Place, t.Feeds = api.Place{At: at, Line: at + 1, Column: at + 2}, at%3
	return t
}

func leaf(word string) api.Node { return api.Node{Tok: tok(word)} }

func node(kind api.NodeKind, kids ...api.Node) api.Node { return api.Node{Kind: kind, Kids: kids} }

// events are those that words stand for, as the document writes them: +X opens, -X closes X (+0 a node of kind 0), another
// word is its token's event; leaf:x and note:x are a Leaf and a Note of any token; ? is an event of none of the four kinds.
func events(words string) []api.Event {
	var l []api.Event
	for word := range strings.FieldsSeq(words) {
		l = append(l, event(word))
	}
	return l
}

func event(word string) api.Event {
	if kind, ok := strings.CutPrefix(word, "+"); ok {
		return api.Event{Kind: api.Open, Node: samples.NodeOf(kind)}
	}
	if kind, ok := strings.CutPrefix(word, "-"); ok {
		return api.Event{Kind: api.Close, Node: samples.NodeOf(kind)}
	}
	if text, ok := strings.CutPrefix(word, "leaf:"); ok {
		return api.Event{Kind: api.Leaf, Tok: tok(text)}
	}
	if text, ok := strings.CutPrefix(word, "note:"); ok {
		return api.Event{Kind: api.Note, Tok: tok(text)}
	}
	if word == "?" {
		return api.Event{Kind: 5, Node: api.Skip, Tok: tok("a")}
	}
	e := api.Event{Kind: api.Leaf, Tok: tok(word)}
	if comment(e.Tok) {
		e.Kind = api.Note
	}
	return e
}

// times is a word so many times.
func times(n int, word string) string { return strings.Repeat(word+" ", n) }

// deep is a node in a node and so on, so many of them, with something in the innermost.
func deep(n int, kids ...api.Node) api.Node {
	inner := node(api.Not, kids...)
	for range n - 1 {
		inner = node(api.Not, inner)
	}
	return inner
}

// wrong is nothing, if Build answers so; else it tells what it answers.
func wrong(l []api.Event, want api.Node, code api.Errno) string {
	n, e := tree.Build(l)
	if e == code && samples.EqualTrees(n, want) {
		return ""
	}
	return "Build of " + samples.EventsWord(l, api.OK) + " = " + built(n, e) + ", not " + built(want, code)
}

func built(n api.Node, code api.Errno) string {
	return samples.TreeWord(n) + ", " + samples.ErrorWord(code)
}

// builds holds that Build answers so.
func builds(t *testing.T, l []api.Event, want api.Node, code api.Errno) {
	t.Helper()
	if no := wrong(l, want, code); no != "" {
		t.Error(no)
	}
}

// few are the tokens and the kinds of nodes of which all small trees are made.
func few() ([]api.Tok, []api.NodeKind) {
	return []api.Tok{placed("a", 3), placed("if", 4), placed("{a}", 5), placed("//a", 6)}, []api.NodeKind{api.Sum, 200}
}

// some is a tree of many sorts of parts, in which so many stand.
func some(pick func(n int) int, size int) api.Node {
	tokens := []api.Tok{{}, tok(""), tok("a"), tok("b"), placed("a", 7), tok("if"), tok("{a}"), placed("{a}", 8), tok("//"), {Kind: 99, Text: "a"}}
	kinds := []api.NodeKind{api.Program, api.Sum, api.Term, api.Value, 33, 255}
	return samples.SomeTree(pick, tokens, kinds, size)
}

// told are the tokens that a range over Toks gives.
func told(n api.Node) []api.Tok { return slices.Collect(tree.Toks(n)) }
