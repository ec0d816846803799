package tree_test

import (
	"math/rand/v2"
	"slices"
	"testing"

	"colophon/api"
	"colophon/grammar"
	"colophon/parse"
	"colophon/samples"
	"colophon/tree"
)

// backToEvents holds that Events of what Build makes are the events, with zero in the fields that are not looked at.
func backToEvents(t *testing.T, l []api.Event) {
	t.Helper()
	n, code := tree.Build(l)
	if code != api.OK {
		return
	}
	l = slices.Clone(l)
	for i := range l {
		if l[i].Kind == api.Open || l[i].Kind == api.Close {
			l[i].Tok = api.Tok{}
		} else {
			l[i].Node = 0
		}
	}
	if got := tree.Events(n); !slices.Equal(got, l) {
		t.Fatalf("Events of Build of %s: %s", samples.EventsWord(l, api.OK), samples.EventsWord(got, api.OK))
	}
}

// backToTree holds that Build of a node's Events is the node, and the Same; and an error of what is a token or too deep.
func backToTree(t *testing.T, n api.Node) {
	t.Helper()
	got, code := tree.Build(tree.Events(n))
	if n.Kind == 0 || plainDepth(n) > 1000 {
		if code != api.ErrTreeForm || !samples.EqualTrees(got, api.Node{}) {
			t.Fatalf("Build of Events of %s: %s", samples.TreeWord(n), built(got, code))
		}
		return
	}
	if code != api.OK || !samples.EqualTrees(got, clean(n)) || !tree.Same(got, n) || tree.Depth(got) != tree.Depth(n) {
		t.Fatalf("Build of Events of %s: %s", samples.TreeWord(n), built(got, code))
	}
}

// clean is a tree without what is not looked at.
func clean(n api.Node) api.Node {
	if n.Kind == 0 {
		return api.Node{Tok: n.Tok}
	}
	c := api.Node{Kind: n.Kind}
	for _, kid := range n.Kids {
		c.Kids = append(c.Kids, clean(kid))
	}
	return c
}

// toksOfEvents holds that Toks are those of the Leafs and Notes of Events.
func toksOfEvents(t *testing.T, n api.Node) {
	t.Helper()
	var want []api.Tok
	for _, e := range tree.Events(n) {
		if e.Kind == api.Leaf || e.Kind == api.Note {
			want = append(want, e.Tok)
		}
	}
	if got := told(n); !slices.Equal(got, want) {
		t.Fatalf("Toks of %s: %s, not %s", samples.TreeWord(n), tokens(got), tokens(want))
	}
}

func TestP13_5AllRowsOfFewEvents(t *testing.T) {
	rows(t, "+Sum +Term -Sum -Term a {c}", 8, backToEvents)
}

func TestP13_5AllSmallTrees(t *testing.T) {
	toks, kinds := few()
	r := rand.New(rand.NewPCG(13, 9))
	for _, n := range samples.Trees(toks, kinds, 5) {
		for _, n := range []api.Node{n, unclean(r.IntN, n)} {
			backToTree(t, n)
			toksOfEvents(t, n)
		}
	}
}

func TestP13_5SomeTrees(t *testing.T) {
	r := rand.New(rand.NewPCG(13, 10))
	for size := range 500 {
		n := unclean(r.IntN, some(r.IntN, 3*size))
		backToTree(t, n)
		toksOfEvents(t, n)
		backToEvents(t, filled(r.IntN, tree.Events(n)))
	}
}

func TestP13_5DeepTrees(t *testing.T) {
	for _, n := range []int{999, 1000, 1001, 3000} {
		for _, n := range []api.Node{deep(n), deep(n, leaf("a"), leaf("{c}")), node(api.Sum, leaf("a"), deep(n-1), deep(3))} {
			backToTree(t, n)
			toksOfEvents(t, n)
		}
	}
}

// Same is an equality: of three trees that are the same or not in any way, too.
func TestP13_5SameIsAnEquality(t *testing.T) {
	trees := samples.Trees([]api.Tok{tok("a"), placed("a", 5), tok("{c}")}, []api.NodeKind{api.Sum}, 4)
	for _, a := range trees {
		if !tree.Same(a, a) {
			t.Fatalf("%s is not the Same as itself", samples.TreeWord(a))
		}
		for _, b := range trees {
			if tree.Same(a, b) != tree.Same(b, a) {
				t.Fatalf("Same of %s and %s hangs on which is first", samples.TreeWord(a), samples.TreeWord(b))
			}
			if !tree.Same(a, b) {
				continue
			}
			for _, c := range trees {
				if tree.Same(a, c) != tree.Same(b, c) {
					t.Fatalf("%s and %s are the Same, but not to %s", samples.TreeWord(a), samples.TreeWord(b), samples.TreeWord(c))
				}
			}
		}
	}
}

// The events that the parser tells of a program make a tree, which has its tokens and tells the events again.
func TestP13_5EventsOfTheParser(t *testing.T) {
	g := grammar.New()
	r := rand.New(rand.NewPCG(13, 11))
	for size := range 200 {
		program := g.Some(r.IntN, 5*size)
		with := commented(r.IntN, program)
		n, l := parsed(t, with)
		if got := tree.Events(n); !slices.Equal(got, l) {
			t.Fatalf("Events of the tree: %s, not %s", samples.EventsWord(got, api.OK), samples.EventsWord(l, api.OK))
		}
		if n.Kind != api.Program || !slices.Equal(told(n), with) {
			t.Fatalf("%s has other tokens than %s", samples.TreeWord(n), tokens(with))
		}
		if bare, _ := parsed(t, program); !tree.Same(n, bare) || tree.Depth(n) != tree.Depth(bare) {
			t.Fatalf("%s and %s", samples.TreeWord(n), samples.TreeWord(bare))
		}
	}
}

// commented has comments between the tokens, and other places.
func commented(pick func(n int) int, l []api.Tok) []api.Tok {
	var with []api.Tok
	for i, x := range l {
		if pick(4) == 0 {
			with = append(with, placed([]string{"{c}", "//c"}[pick(2)], i))
		}
		x.Feeds, x.Place.At = pick(3), i
		with = append(with, x)
	}
	return with
}

// parsed is the tree of a program, by the parser's events; and these.
func parsed(t *testing.T, l []api.Tok) (api.Node, []api.Event) {
	t.Helper()
	p := parse.New()
	var events []api.Event
	for _, x := range l {
		more, code := p.Put(x)
		if code != api.OK {
			t.Fatalf("%s: %s", tokens(l), samples.ErrorWord(code))
		}
		events = append(events, more...)
	}
	more, _ := p.Close()
	events = append(events, more...)
	n, code := tree.Build(events)
	if code != api.OK {
		t.Fatalf("Build of %s: %s", samples.EventsWord(events, api.OK), samples.ErrorWord(code))
	}
	return n, events
}
