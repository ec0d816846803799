package tree_test

import (
	"math/rand/v2"
	"testing"

	"colophon/api"
	"colophon/samples"
	"colophon/tree"
)

// isSame holds that Same answers so, whichever of the two comes first.
func isSame(t *testing.T, a, b api.Node, want bool) {
	t.Helper()
	if x, y := tree.Same(a, b), tree.Same(b, a); x != want || y != want {
		t.Fatalf("Same of %s and %s: %t, and the other way %t", samples.TreeWord(a), samples.TreeWord(b), x, y)
	}
}

func TestP13_3Examples(t *testing.T) {
	isSame(t, node(api.Sum, leaf("a")), node(api.Sum, leaf("a"), leaf("{c}")), true)
	isSame(t, node(api.Sum, leaf("a")), node(api.Term, leaf("a")), false)
}

func TestP13_3Tokens(t *testing.T) {
	a := placed("a", 3)
	kind, text, place, feeds := a, a, a, a
	kind.Kind, text.Text, place.Place, feeds.Feeds = api.TokKey, "b", api.Place{At: 9, Line: 8, Column: 7}, 99
	for _, c := range []struct {
		b    api.Tok
		want bool
	}{{a, true}, {kind, false}, {text, false}, {place, true}, {feeds, true}, {api.Tok{}, false}, {tok("{a}"), false}} {
		x, y := api.Node{Tok: a}, api.Node{Tok: c.b}
		isSame(t, x, y, c.want)
		isSame(t, node(api.Sum, leaf("b"), x), node(api.Sum, leaf("b"), y), c.want && !comment(c.b))
		isSame(t, deep(30, x), deep(30, y), c.want)
		y.Kids = []api.Node{leaf("b")}
		isSame(t, x, y, c.want)
		isSame(t, x, node(api.Sum, y), false)
		isSame(t, x, api.Node{Kind: api.Sum, Tok: c.b}, false)
	}
}

// Texts are bytes: what looks the same, or is bad, is the same byte by byte alone.
func TestP13_3Texts(t *testing.T) {
	texts := []string{"", "a", "A", "\u00e9", "e\u0301", "\xff", "\xfe", "\ufffd", "a\x00", "\x00", "a "}
	for i, a := range texts {
		for j, b := range texts {
			isSame(t, api.Node{Tok: api.Tok{Text: a}}, api.Node{Tok: api.Tok{Text: b}}, i == j)
		}
	}
}

func TestP13_3CommentsHandedIn(t *testing.T) {
	isSame(t, leaf("{a}"), leaf("{a}"), true)
	isSame(t, leaf("{a}"), api.Node{Tok: placed("{a}", 6)}, true)
	isSame(t, leaf("{a}"), leaf("{b}"), false)
	isSame(t, leaf("//a"), leaf("//b"), false)
	isSame(t, leaf("//a"), api.Node{Tok: api.Tok{Kind: api.TokBlock, Text: "//a"}}, false)
	isSame(t, leaf("{a}"), leaf("a"), false)
	isSame(t, leaf("{a}"), node(api.Sum), false)
	isSame(t, leaf("{a}"), node(api.Sum, leaf("{a}")), false)
}

// Comments count for nothing, wherever they stand among the kids.
func TestP13_3CommentsInNodes(t *testing.T) {
	a, b, c, d := leaf("a"), leaf("b"), leaf("{c}"), leaf("//d")
	for _, with := range []api.Node{
		node(api.Sum, a, b), node(api.Sum, c, a, b), node(api.Sum, a, d, b), node(api.Sum, a, b, c), node(api.Sum, c, d, a, c, c, b, d, c),
	} {
		isSame(t, node(api.Sum, a, b), with, true)
		isSame(t, node(api.Sum, b, a), with, false)
		isSame(t, node(api.Sum, a), with, false)
		isSame(t, node(api.Sum, a, b, b), with, false)
		isSame(t, node(api.Rel, node(api.Sum, d, a, b), c), node(api.Rel, with), true)
	}
	isSame(t, node(api.Sum), node(api.Sum, c), true)
	isSame(t, node(api.Sum, d, d), node(api.Sum, c), true)
	isSame(t, node(api.Sum), node(api.Sum, a), false)
	isSame(t, node(api.Sum, c), node(api.Sum, a), false)
	isSame(t, node(api.Sum, c, a), node(api.Sum, a, a), false)
	// A node without kids is none.
	isSame(t, node(api.Sum), node(api.Sum, node(api.Sum)), false)
	isSame(t, node(api.Sum, c), node(api.Sum, node(api.Sum, c)), false)
	// Nor is a node one that has a comment's Tok, nor a comment less one for its Kids.
	isSame(t, node(api.Sum), node(api.Sum, api.Node{Kind: api.Term, Tok: tok("{c}")}), false)
	isSame(t, node(api.Sum, node(api.Term)), node(api.Sum, api.Node{Kind: api.Term, Tok: tok("{c}")}), true)
	isSame(t, node(api.Sum), node(api.Sum, api.Node{Tok: tok("{c}"), Kids: []api.Node{a}}), true)
}

func TestP13_3AllKindsOfNodes(t *testing.T) {
	for a := range 256 {
		for b := range 256 {
			isSame(t, api.Node{Kind: api.NodeKind(a)}, api.Node{Kind: api.NodeKind(b)}, a == b)
		}
	}
}

// All pairs of small trees; that it is an equality follows, as the plain way holds texts against each other.
func TestP13_3AllPairsOfSmallTrees(t *testing.T) {
	tokens, kinds := few()
	trees := samples.Trees(append(tokens, placed("a", 30)), kinds, 4)
	var say []string
	for _, n := range trees {
		say = append(say, says(n))
	}
	same := 0
	for i, a := range trees {
		for j, b := range trees {
			want := say[i] == say[j]
			if want {
				same++
			}
			if tree.Same(a, b) != want {
				t.Fatalf("Same of %s and %s: %t", samples.TreeWord(a), samples.TreeWord(b), !want)
			}
		}
	}
	if same < 10*len(trees) || same > len(trees)*len(trees)/10 {
		t.Errorf("%d of %d pairs are the same", same, len(trees)*len(trees))
	}
}

func TestP13_3SomeTrees(t *testing.T) {
	r := rand.New(rand.NewPCG(13, 6))
	for size := range 200 {
		a := some(r.IntN, 1+size)
		isSame(t, a, unclean(r.IntN, respaced(r.IntN, a)), true)
		b := samples.CopyTree(a)
		one := part(&b, r.IntN)
		*one = some(r.IntN, r.IntN(3))
		isSame(t, a, b, plainSame(a, b))
		*one = leaf("a")
		isSame(t, a, b, plainSame(a, b))
	}
}

// respaced says the same: it has other places, line feeds and comments.
func respaced(pick func(n int) int, n api.Node) api.Node {
	n.Tok.Place, n.Tok.Feeds = api.Place{At: pick(9), Line: pick(9), Column: pick(9)}, pick(9)
	var kids []api.Node
	for _, kid := range n.Kids {
		if pick(3) == 0 {
			kids = append(kids, leaf("{new}"))
		}
		if kid.Kind != 0 || !comment(kid.Tok) || pick(2) == 0 {
			kids = append(kids, respaced(pick, kid))
		}
	}
	if n.Kind != 0 && pick(3) == 0 {
		kids = append(kids, leaf("//new"))
	}
	n.Kids = kids
	return n
}

// part is a part of a tree, the tree itself too.
func part(n *api.Node, pick func(n int) int) *api.Node {
	for len(n.Kids) > 0 && pick(6) > 0 {
		n = &n.Kids[pick(len(n.Kids))]
	}
	return n
}
