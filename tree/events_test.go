package tree_test

import (
	"math/rand/v2"
	"slices"
	"testing"

	"colophon/api"
	"colophon/samples"
	"colophon/tree"
)

// tells holds that Events answers so.
func tells(t *testing.T, n api.Node, want []api.Event) {
	t.Helper()
	if got := tree.Events(n); !slices.Equal(got, want) {
		t.Fatalf("Events of %s = %s, not %s", samples.TreeWord(n), samples.EventsWord(got, api.OK), samples.EventsWord(want, api.OK))
	}
}

func TestP13_2Examples(t *testing.T) {
	tells(t, api.Node{Tok: tok("a"), Kids: []api.Node{leaf("b"), node(api.Sum, leaf("c"))}}, events("a"))
}

func TestP13_2Tokens(t *testing.T) {
	for k := range 256 {
		x := api.Tok{Kind: api.TokKind(k), Text: "a\xff", Place: api.Place{At: 1, Line: 2, Column: 3}, Feeds: 4}
		want := api.Event{Kind: api.Leaf, Tok: x}
		if comment(x) {
			want.Kind = api.Note
		}
		tells(t, api.Node{Tok: x}, []api.Event{want})
		tells(t, api.Node{Tok: x, Kids: []api.Node{leaf("b"), node(api.Sum)}}, []api.Event{want})
		tells(t, node(api.Sum, api.Node{Tok: x, Kids: []api.Node{leaf("b")}}), []api.Event{event("+Sum"), want, event("-Sum")})
	}
}

func TestP13_2Nodes(t *testing.T) {
	for k := 1; k < 256; k++ {
		kind := api.NodeKind(k)
		opens, closes := api.Event{Kind: api.Open, Node: kind}, api.Event{Kind: api.Close, Node: kind}
		tells(t, api.Node{Kind: kind}, []api.Event{opens, closes})
		tells(t, api.Node{Kind: kind, Tok: placed("a", 3)}, []api.Event{opens, closes})
		tells(t, api.Node{Kind: kind, Tok: tok("{c}"), Kids: []api.Node{leaf("b"), leaf("//c")}}, []api.Event{opens, event("b"), event("//c"), closes})
		tells(t, node(kind, node(kind), node(api.Sum, node(kind))), []api.Event{opens, opens, closes, event("+Sum"), opens, closes, event("-Sum"), closes})
	}
	tells(t, node(api.Sum, node(api.Term, leaf("a")), leaf("{c}"), leaf("b"), node(api.Term)), events("+Sum +Term a -Term {c} b +Term -Term -Sum"))
}

func TestP13_2AllSmallTrees(t *testing.T) {
	tokens, kinds := few()
	for _, n := range samples.Trees(tokens, kinds, 5) {
		tells(t, n, plainEvents(n))
	}
}

func TestP13_2SomeTrees(t *testing.T) {
	r := rand.New(rand.NewPCG(13, 5))
	for size := range 300 {
		n := unclean(r.IntN, some(r.IntN, 2*size))
		tells(t, n, plainEvents(n))
	}
}

// unclean has tokens with Kids and nodes with a Tok, which are not looked at.
func unclean(pick func(n int) int, n api.Node) api.Node {
	n.Kids = slices.Clone(n.Kids)
	for i, kid := range n.Kids {
		n.Kids[i] = unclean(pick, kid)
	}
	switch {
	case pick(2) == 0:
	case n.Kind == 0:
		n.Kids = []api.Node{leaf("other"), leaf("{other}"), node(api.Rel, node(api.Rel))}
	default:
		n.Tok = []api.Tok{tok("other"), tok("{other}"), placed("//", 5)}[pick(3)]
	}
	return n
}
