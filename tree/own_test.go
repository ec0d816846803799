package tree_test

import (
	"iter"
	"math/rand/v2"
	"runtime"
	"slices"
	"sync"
	"testing"
	"weak"

	"colophon/api"
	"colophon/samples"
	"colophon/tree"
)

// scribble writes over all of a tree's lists, and over their spare room.
func scribble(n api.Node) {
	for _, kid := range n.Kids {
		scribble(kid)
	}
	all := n.Kids[:cap(n.Kids)]
	for i := range all {
		all[i] = api.Node{Kind: 98, Tok: tok("scribbled")}
	}
}

// roomy is a tree whose lists all have spare room, in which something stands.
func roomy(n api.Node) api.Node {
	size := len(n.Kids)
	kids := make([]api.Node, size+2)
	for i, kid := range n.Kids {
		kids[i] = roomy(kid)
	}
	kids[size], kids[size+1] = leaf("spare"), node(api.Rel)
	n.Kids = kids[:size]
	return n
}

// spareKept: does all spare room of such a tree have what stood there?
func spareKept(n api.Node) bool {
	size := len(n.Kids)
	spare := n.Kids[size : size+2]
	return samples.EqualTrees(spare[0], leaf("spare")) && samples.EqualTrees(spare[1], node(api.Rel)) &&
		!slices.ContainsFunc(n.Kids, func(kid api.Node) bool { return !spareKept(kid) })
}

// No tree that is handed in is changed, nor the spare room of its lists.
func TestR2TreesAreNotWrittenInto(t *testing.T) {
	r := rand.New(rand.NewPCG(13, 12))
	for range 200 {
		n := unclean(r.IntN, some(r.IntN, 60))
		full := roomy(n)
		tree.Events(full)
		tree.Depth(full)
		told(full)
		tree.Same(full, n)
		tree.Same(n, full)
		tree.Same(full, full)
		if !samples.EqualTrees(n, full) || !spareKept(full) {
			t.Fatalf("%s is %s now", samples.TreeWord(n), samples.TreeWord(full))
		}
	}
}

// No events that are handed in are changed, nor their spare room, whether they make a tree or not.
func TestR2EventsAreNotWrittenInto(t *testing.T) {
	r := rand.New(rand.NewPCG(13, 13))
	for range 200 {
		l := filled(r.IntN, plainEvents(some(r.IntN, 60)))
		l = append(l, events("+Sum ? a")...)
		was := slices.Clone(l)
		for size := range l {
			tree.Build(l[:size])
		}
		if !slices.Equal(l, was) {
			t.Fatalf("%s are %s now", samples.EventsWord(was, api.OK), samples.EventsWord(l, api.OK))
		}
	}
}

// What Build makes is the caller's own: it hangs on the events no more, nor on another answer.
func TestR2WhatBuildMakesIsNew(t *testing.T) {
	r := rand.New(rand.NewPCG(13, 14))
	for range 200 {
		n := some(r.IntN, 60)
		l := plainEvents(n)
		was := slices.Clone(l)
		first, _ := tree.Build(l)
		second, _ := tree.Build(l)
		scribble(first)
		if !slices.Equal(l, was) || !samples.EqualTrees(second, n) {
			t.Fatalf("%s: behind writing into an answer another is %s", samples.TreeWord(n), samples.TreeWord(second))
		}
		for i := range l {
			l[i] = api.Event{Kind: 99}
		}
		if !samples.EqualTrees(second, n) {
			t.Fatalf("%s: behind writing into the events it is %s", samples.TreeWord(n), samples.TreeWord(second))
		}
	}
}

// No two lists of what Build makes share memory: what is put behind one list's end is seen in no other.
func TestR2ListsOfATreeShareNothing(t *testing.T) {
	r := rand.New(rand.NewPCG(13, 15))
	for range 200 {
		n := some(r.IntN, 60)
		got, _ := tree.Build(plainEvents(n))
		var fill func(n api.Node)
		fill = func(n api.Node) {
			spare := n.Kids[len(n.Kids):cap(n.Kids)]
			for i := range spare {
				spare[i] = leaf("spare")
			}
			for _, kid := range n.Kids {
				fill(kid)
			}
		}
		fill(got)
		if !samples.EqualTrees(got, n) {
			t.Fatalf("%s, its spare room filled: %s", samples.TreeWord(n), samples.TreeWord(got))
		}
	}
}

func TestR2WhatEventsTellsIsNew(t *testing.T) {
	r := rand.New(rand.NewPCG(13, 16))
	for range 200 {
		n := some(r.IntN, 60)
		was := samples.CopyTree(n)
		first, second := tree.Events(n), tree.Events(n)
		all := first[:cap(first)]
		for i := range all {
			all[i] = api.Event{Kind: 99}
		}
		if !samples.EqualTrees(n, was) || !slices.Equal(second, plainEvents(n)) {
			t.Fatalf("%s: behind writing into an answer another is %s", samples.TreeWord(n), samples.EventsWord(second, api.OK))
		}
	}
}

// A tree is not kept: Toks tells the tokens that it had when it was called, whatever becomes of the tree ahead of a range
// over them, or within it.
func TestR2ToksKeepsNoTree(t *testing.T) {
	r := rand.New(rand.NewPCG(13, 17))
	trees := []api.Node{leaf("a"), node(api.Sum), node(api.Sum, leaf("a"), leaf("{c}")), deep(20, leaf("a"), leaf("b"))}
	for range 200 {
		trees = append(trees, some(r.IntN, 60))
	}
	for _, n := range trees {
		want := plainToks(n)
		toks := tree.Toks(n)
		var got []api.Tok
		for x := range toks {
			scribble(n)
			got = append(got, x)
		}
		if !slices.Equal(got, want) || !slices.Equal(slices.Collect(toks), want) {
			t.Fatalf("%s, not %s", tokens(got), tokens(want))
		}
	}
}

// toksOfOwn is Toks of a tree that no one else has, and where its list of kids stands.
func toksOfOwn(kind api.NodeKind) (iter.Seq[api.Tok], weak.Pointer[api.Node]) {
	n := api.Node{Kind: kind, Tok: tok("a"), Kids: []api.Node{leaf("a")}}
	return tree.Toks(n), weak.Make(&n.Kids[0])
}

// Nor is a list kept that is told nothing of: that of a token.
func TestR2ToksKeepsNoList(t *testing.T) {
	for _, kind := range []api.NodeKind{0, api.Sum} {
		toks, list := toksOfOwn(kind)
		runtime.GC()
		if got := slices.Collect(toks); list.Value() != nil || !slices.Equal(got, []api.Tok{tok("a")}) {
			t.Errorf("of kind %d: %s, and the list is kept: %t", kind, tokens(got), list.Value() != nil)
		}
	}
}

func TestR2Goroutines(t *testing.T) {
	n := some(rand.New(rand.NewPCG(13, 18)).IntN, 2000)
	l, toks := plainEvents(n), tree.Toks(n)
	want, depth := plainToks(n), plainDepth(n)
	var wait sync.WaitGroup
	for range 8 {
		wait.Go(func() {
			if got, code := tree.Build(l); code != api.OK || !samples.EqualTrees(got, n) || !tree.Same(got, n) {
				t.Error("Build makes something else in a goroutine")
			}
			if !slices.Equal(tree.Events(n), l) || !slices.Equal(slices.Collect(toks), want) || tree.Depth(n) != depth {
				t.Error("a tree tells something else in a goroutine")
			}
		})
	}
	wait.Wait()
}

// R4: as many parts as may be stand within one another in a tree that no call made.
func TestR1AsDeepAsTheBound(t *testing.T) {
	const most = 1 << 16
	n := deep(most-1, leaf("a"), leaf("{c}"), leaf("b"))
	l := tree.Events(n)
	if len(l) != 2*(most-1)+3 || tree.Depth(n) != most-1 || len(told(n)) != 3 {
		t.Errorf("%d events, %d deep, tokens %s", len(l), tree.Depth(n), tokens(told(n)))
	}
	isSame(t, n, deep(most-1, leaf("a"), leaf("b")), true)
	isSame(t, n, deep(most-1, leaf("a")), false)
	isSame(t, n, deep(most-2, leaf("a"), leaf("b")), false)
	builds(t, l, api.Node{}, api.ErrTreeForm)
	for x := range tree.Toks(n) {
		if x.Text != "a" {
			t.Error(tokens([]api.Tok{x}))
		}
		break
	}
}

// Great trees and long rows, as deep as they are made of sources: a way that begins again at the front for each part would
// not end here.
func TestR1AGreatTree(t *testing.T) {
	const most = 1 << 17
	kids := make([]api.Node, most)
	for i := range kids {
		kids[i] = node(api.Term, leaf("a"))
	}
	n := deep(900, kids...)
	l := tree.Events(n)
	got, code := tree.Build(l)
	if code != api.OK || len(l) != 3*most+1800 || tree.Depth(got) != 901 || !tree.Same(got, n) || len(told(n)) != most {
		t.Errorf("%d events, %s, %d deep", len(l), samples.ErrorWord(code), tree.Depth(got))
	}
	if _, code := tree.Build(l[:len(l)-1]); code != api.ErrTreeForm {
		t.Error(samples.ErrorWord(code))
	}
}

// The same again: an answer hangs on nothing that was ahead of it.
func TestR2TheSameAgain(t *testing.T) {
	n := some(rand.New(rand.NewPCG(13, 19)).IntN, 100)
	l := plainEvents(n)
	for range 3 {
		builds(t, l, n, api.OK)
		builds(t, l[1:], api.Node{}, api.ErrTreeForm)
		tells(t, n, l)
		has(t, n, plainToks(n))
		isDeep(t, n, plainDepth(n))
	}
}
