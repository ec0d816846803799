package tree_test

import (
	"iter"
	"math/rand/v2"
	"slices"
	"testing"

	"colophon/api"
	"colophon/samples"
	"colophon/tree"
)

// has holds that a range over Toks gives just these, to the end, again, and left behind any of them.
func has(t *testing.T, n api.Node, want []api.Tok) {
	t.Helper()
	toks := tree.Toks(n)
	for range 2 {
		if got := slices.Collect(toks); !slices.Equal(got, want) {
			t.Fatalf("Toks of %s: %s, not %s", samples.TreeWord(n), tokens(got), tokens(want))
		}
	}
	for most := range want {
		var got []api.Tok
		for x := range toks {
			got = append(got, x)
			if len(got) > most {
				break
			}
		}
		if !slices.Equal(got, want[:most+1]) {
			t.Fatalf("Toks of %s, left behind %d: %s", samples.TreeWord(n), most+1, tokens(got))
		}
	}
}

func tokens(l []api.Tok) string { return samples.AnswerWord(l, api.OK, api.Place{}) }

func TestP13_4Toks(t *testing.T) {
	a, b, c := placed("a", 1), placed("if", 2), placed("{c}", 3)
	x, y, z := api.Node{Tok: a}, api.Node{Tok: b}, api.Node{Tok: c}
	has(t, x, []api.Tok{a})
	has(t, z, []api.Tok{c})
	has(t, api.Node{}, []api.Tok{{}})
	has(t, api.Node{Tok: a, Kids: []api.Node{y}}, []api.Tok{a})
	has(t, node(api.Sum), nil)
	has(t, api.Node{Kind: 255, Tok: a}, nil)
	has(t, node(api.Sum, node(api.Term), node(api.Term, node(api.Not))), nil)
	has(t, node(api.Sum, x, y, z, x), []api.Tok{a, b, c, a})
	has(t, node(api.Sum, node(api.Term, x, y), z, node(api.Term), node(api.Term, node(api.Not, y)), x), []api.Tok{a, b, c, b, a})
	has(t, deep(500, x, y), []api.Tok{a, b})
}

func TestP13_4ToksOfAllSmallTrees(t *testing.T) {
	tokens, kinds := few()
	for _, n := range samples.Trees(tokens, kinds, 5) {
		has(t, n, plainToks(n))
	}
}

func TestP13_4ToksOfSomeTrees(t *testing.T) {
	r := rand.New(rand.NewPCG(13, 7))
	for size := range 200 {
		n := unclean(r.IntN, some(r.IntN, 2*size))
		has(t, n, plainToks(n))
	}
}

// One range in another, and a range that is asked for one token at a time: each goes by itself.
func TestP13_4RangesSideBySide(t *testing.T) {
	n := node(api.Sum, leaf("a"), node(api.Term, leaf("b"), leaf("{c}")), leaf("d"))
	toks := tree.Toks(n)
	got := ""
	for x := range toks {
		for y := range toks {
			got += x.Text + y.Text + " "
			if y.Text == x.Text {
				break
			}
		}
	}
	if want := "aa ba bb {c}a {c}b {c}{c} da db d{c} dd "; got != want {
		t.Errorf("%s, not %s", got, want)
	}
	next, stop := iter.Pull(toks)
	for _, want := range []string{"a", "b"} {
		if x, ok := next(); !ok || x.Text != want {
			t.Errorf("%s, %t, not %s", x.Text, ok, want)
		}
	}
	stop()
	if _, ok := next(); ok || len(slices.Collect(toks)) != 4 {
		t.Error("a range that is stopped goes on, or stops another")
	}
}

// isDeep holds that Depth answers so.
func isDeep(t *testing.T, n api.Node, want int) {
	t.Helper()
	if got := tree.Depth(n); got != want {
		t.Fatalf("Depth of %s = %d, not %d", samples.TreeWord(n), got, want)
	}
}

func TestP13_4DepthExamples(t *testing.T) {
	isDeep(t, leaf("a"), 0)
	isDeep(t, node(api.Skip), 1)
	isDeep(t, node(api.Sum, node(api.Term, leaf("a"))), 2)
}

func TestP13_4Depth(t *testing.T) {
	isDeep(t, api.Node{}, 0)
	isDeep(t, leaf("{c}"), 0)
	isDeep(t, api.Node{Tok: tok("a"), Kids: []api.Node{deep(5)}}, 0)
	isDeep(t, api.Node{Kind: 255, Tok: tok("a")}, 1)
	isDeep(t, node(api.Sum, leaf("a"), leaf("{c}")), 1)
	isDeep(t, node(api.Sum, api.Node{Tok: tok("a"), Kids: []api.Node{deep(5)}}), 1)
	isDeep(t, node(api.Sum, node(api.Term), leaf("a")), 2)
	// The deepest kid is the first, between others, and the last.
	isDeep(t, node(api.Sum, deep(7), deep(2), leaf("a"), deep(3)), 8)
	isDeep(t, node(api.Sum, deep(2), leaf("a"), deep(7, leaf("a")), deep(3)), 8)
	isDeep(t, node(api.Sum, leaf("a"), deep(2), deep(3), deep(7)), 8)
	for _, n := range []int{1, 2, 999, 1000, 1001, 5000} {
		isDeep(t, deep(n), n)
		isDeep(t, deep(n, leaf("a")), n)
	}
}

func TestP13_4DepthOfTrees(t *testing.T) {
	toks, kinds := few()
	for _, n := range samples.Trees(toks, kinds, 6) {
		isDeep(t, n, plainDepth(n))
	}
	r := rand.New(rand.NewPCG(13, 8))
	for size := range 300 {
		n := unclean(r.IntN, some(r.IntN, 3*size))
		isDeep(t, n, plainDepth(n))
	}
}
