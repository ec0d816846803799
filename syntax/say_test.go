package syntax_test

import (
	"fmt"
	"strings"
	"testing"

	"colophon/api"
	"colophon/grammar"
	"colophon/samples"
	"colophon/scan"
	"colophon/syntax"
)

// tokens are those of a source that has no error, as a scanner gives them: with their places and their Feeds.
func tokens(source string) []api.Tok {
	l, code, at := scan.All(source)
	if code != api.OK {
		panic(fmt.Sprintf("%q: %s at %s", source, samples.ErrorWord(code), samples.PlaceWord(at)))
	}
	return l
}

// texts are tokens as a test that fails tells them.
func texts(l []api.Tok) string {
	var words []string
	for i, tok := range l {
		if i == 200 {
			words = append(words, fmt.Sprintf(".. (%d tokens)", len(l)))
			break
		}
		words = append(words, tok.Text)
	}
	return strings.Join(words, " ")
}

// answer is what Program answers.
type answer struct {
	n    api.Node
	code api.Errno
	at   int
}

func program(l []api.Tok) answer {
	n, code, at := syntax.Program(l)
	return answer{n, code, at}
}

func (a answer) same(b answer) bool {
	return a.code == b.code && a.at == b.at && samples.EqualTrees(a.n, b.n)
}

func (a answer) String() string {
	if a.code != api.OK && samples.EqualTrees(a.n, api.Node{}) {
		return fmt.Sprintf("%s, %d", samples.ErrorWord(a.code), a.at)
	}
	return fmt.Sprintf("%s, %s, %d", samples.TreeWord(a.n), samples.ErrorWord(a.code), a.at)
}

// answers holds that Program answers so.
func answers(t *testing.T, l []api.Tok, want answer) {
	t.Helper()
	if got := program(l); !got.same(want) {
		t.Fatalf("Program of %s = %s, not %s", texts(l), got, want)
	}
}

// bare tells a tree as the document does: {Sum: a, {Term: b}}, each token by its text alone.
func bare(n api.Node) string {
	if n.Kind == 0 {
		return n.Tok.Text
	}
	var kids []string
	for _, kid := range n.Kids {
		kids = append(kids, bare(kid))
	}
	return "{" + samples.NodeWord(n.Kind) + ": " + strings.Join(kids, ", ") + "}"
}

// has holds the tree of a source, told so.
func has(t *testing.T, source, want string) {
	t.Helper()
	a := program(tokens(source))
	if a.code != api.OK || a.at != 0 || bare(a.n) != want {
		t.Errorf("Program of %s = %s, %s, %d, not %s", source, bare(a.n), samples.ErrorWord(a.code), a.at, want)
	}
}

// sorts are a token of each sort of the language, and some that stand nowhere.
func sorts(g *grammar.Grammar) []api.Tok {
	return append(g.Words(), samples.Nowhere()...)
}

// behind are tokens and one more, in a list of its own.
func behind(l []api.Tok, more ...api.Tok) []api.Tok {
	return append(l[:len(l):len(l)], more...)
}
