package tree_test

import (
	"math/rand/v2"
	"slices"
	"testing"

	"colophon/api"
	"colophon/samples"
	"colophon/tree"
)

func TestP13_1Examples(t *testing.T) {
	builds(t, events("+Skip skip -Skip"), node(api.Skip, leaf("skip")), api.OK)
	for _, words := range []string{"", "a", "+Skip", "+Skip -Body", "+Skip -Skip +Skip -Skip", "+0 -0", "+Skip note:a -Skip"} {
		builds(t, events(words), api.Node{}, api.ErrTreeForm)
	}
}

func TestP13_1Nodes(t *testing.T) {
	a, b, c, line := leaf("a"), leaf("b"), leaf("{c}"), leaf("//c")
	for words, want := range map[string]api.Node{
		"+Skip -Skip":                               node(api.Skip),
		"+Sum a b a -Sum":                           node(api.Sum, a, b, a),
		"+Sum {c} -Sum":                             node(api.Sum, c),
		"+Sum //c a {c} {c} b //c -Sum":             node(api.Sum, line, a, c, c, b, line),
		"+Sum +Sum -Sum -Sum":                       node(api.Sum, node(api.Sum)),
		"+Sum +Sum -Sum +Sum -Sum -Sum":             node(api.Sum, node(api.Sum), node(api.Sum)),
		"+Sum +Term a -Term b +Term -Term {c} -Sum": node(api.Sum, node(api.Term, a), b, node(api.Term), c),
		"+Sum +Term +Not {c} b -Not -Term a -Sum":   node(api.Sum, node(api.Term, node(api.Not, c, b)), a),
	} {
		builds(t, events(words), want, api.OK)
	}
}

func TestP13_1WhatIsNoNode(t *testing.T) {
	for _, words := range []string{
		// Ahead of the first Open, and behind the last Close.
		"a +Skip -Skip", "{c} +Skip -Skip", "-Skip +Skip -Skip", "? +Skip -Skip", "+Skip -Skip a", "+Skip -Skip {c}",
		"+Skip -Skip -Skip", "+Skip -Skip +Skip", "+Skip -Skip ?", "+Skip -Skip +0",
		// No node, or more than one.
		"{c}", "-Skip", "?", "a b", "-Skip +Skip", "+Sum a -Sum +Sum a -Sum", "a -Skip",
		// A Close of another Kind, or of none that is open.
		"+Sum -Term", "+Sum -0", "+Sum +Term -Sum -Term", "+Sum +Term -Sum -Sum", "+Sum +Term -Term -Term", "+Sum a -Term -Sum",
		// A node that is not closed.
		"+Sum a", "+Sum {c}", "+Sum +Sum -Sum", "+Sum +Term -Term", "+Sum +Term a -Sum", "+Sum +Sum +Sum -Sum -Sum",
		// Open of Node 0.
		"+0", "+0 a -0", "+Sum +0 -0 -Sum", "+Sum a +0 b -0 c -Sum", "+0 +Sum -Sum -0",
		// A token of the other sort, and an event of no kind.
		"+Sum note:a -Sum", "+Sum note:if -Sum", "+Sum leaf:{c} -Sum", "+Sum leaf://c -Sum", "+Sum a note:b c -Sum", "+Sum +Term leaf:{c} -Term -Sum",
		"+Sum ? -Sum", "+Sum a ? b -Sum", "+Sum +Term ? -Term -Sum",
	} {
		builds(t, events(words), api.Node{}, api.ErrTreeForm)
	}
}

// rows goes through all rows of at most so many events, in several tests at once, one for each first event.
func rows(t *testing.T, words string, most int, look func(t *testing.T, l []api.Event)) {
	look(t, nil)
	letters := events(words)
	var grow func(t *testing.T, l []api.Event)
	grow = func(t *testing.T, l []api.Event) {
		look(t, l)
		if len(l) == most {
			return
		}
		for _, e := range letters {
			grow(t, append(l, e))
		}
	}
	for _, e := range letters {
		t.Run("", func(t *testing.T) {
			t.Parallel()
			grow(t, append(make([]api.Event, 0, most), e))
		})
	}
}

func asPlain(t *testing.T, l []api.Event) {
	t.Helper()
	want, code := plainBuild(l)
	if no := wrong(l, want, code); no != "" {
		t.Fatal(no)
	}
}

func TestP13_1AllRowsOfFewEvents(t *testing.T) {
	rows(t, "+0 +Sum +Term -0 -Sum -Term a if leaf:{c} leaf://c {c} //c note:a note:if ?", 5, asPlain)
}

func TestP13_1AllRowsOfSomeMoreEvents(t *testing.T) {
	rows(t, "+Sum +Term -Sum -Term a {c}", 8, asPlain)
}

func TestP13_1AllRowsOfOneNode(t *testing.T) { rows(t, "+Sum -Sum a", 11, asPlain) }

// One event of a tree is another, is left out, stands there twice or at another place.
func TestP13_1SomeWrongRows(t *testing.T) {
	r := rand.New(rand.NewPCG(13, 2))
	letters := events("+0 +Program +Sum +Term -0 -Program -Sum -Term a {c} leaf:{c} note:a ?")
	good := 0
	for range 20000 {
		l := plainEvents(some(r.IntN, r.IntN(30)))
		at := r.IntN(len(l))
		e := l[at]
		switch r.IntN(4) {
		case 0:
			l[at] = letters[r.IntN(len(letters))]
		case 1:
			l = slices.Delete(l, at, at+1)
		case 2:
			l = slices.Insert(l, at, e)
		case 3:
			l = slices.Delete(l, at, at+1)
			l = slices.Insert(l, r.IntN(len(l)+1), e)
		}
		asPlain(t, l)
		if _, code := plainBuild(l); code == api.OK {
			good++
		}
	}
	if good < 2000 || good > 18000 {
		t.Errorf("%d of 20000 are good", good)
	}
}

// Of each kind of events, nodes and tokens.
func TestP13_1AllKinds(t *testing.T) {
	for k := range 256 {
		one := api.Tok{Kind: api.TokKind(k), Text: "a"}
		for kind := range 256 {
			asPlain(t, []api.Event{event("+Sum"), {Kind: api.EventKind(kind), Tok: one}, event("-Sum")})
			asPlain(t, []api.Event{event("+Sum"), {Kind: api.EventKind(kind), Node: api.NodeKind(k), Tok: one}, event("-Sum")})
			asPlain(t, []api.Event{{Kind: api.Open, Node: api.NodeKind(k)}, {Kind: api.Close, Node: api.NodeKind(kind)}})
			asPlain(t, []api.Event{{Kind: api.EventKind(kind), Node: api.NodeKind(k)}, {Kind: api.Close, Node: api.NodeKind(k)}})
			asPlain(t, []api.Event{{Kind: api.Open, Node: api.NodeKind(k)}, {Kind: api.EventKind(kind), Node: api.NodeKind(k)}})
		}
	}
}

// filled has any values in the fields that are not looked at.
func filled(pick func(n int) int, l []api.Event) []api.Event {
	toks := []api.Tok{tok("a"), placed("b", 9), tok("{c}"), tok("//c"), {Kind: 77}, {Feeds: -1}}
	l = slices.Clone(l)
	for i := range l {
		switch l[i].Kind {
		case api.Open, api.Close:
			l[i].Tok = toks[pick(len(toks))]
		case api.Leaf, api.Note:
			l[i].Node = api.NodeKind(pick(256))
		}
	}
	return l
}

func TestP13_1WhatIsNotLookedAt(t *testing.T) {
	r := rand.New(rand.NewPCG(13, 3))
	tokens, kinds := few()
	for _, n := range samples.Trees(tokens, kinds, 4) {
		if n.Kind != 0 {
			builds(t, filled(r.IntN, plainEvents(n)), n, api.OK)
		}
	}
	for range 300 {
		n := some(r.IntN, 100)
		builds(t, filled(r.IntN, plainEvents(n)), n, api.OK)
	}
	for _, words := range []string{"a", "+Skip", "+Skip -Body", "+0 -0", "+Skip note:a -Skip", "+Skip leaf:{c} -Skip"} {
		for range 50 {
			builds(t, filled(r.IntN, events(words)), api.Node{}, api.ErrTreeForm)
		}
	}
}

// R3: nodes have no Tok and tokens no Kids, whatever the events have.
func TestR3OfWhatBuildMakes(t *testing.T) {
	r := rand.New(rand.NewPCG(13, 4))
	var look func(n api.Node)
	look = func(n api.Node) {
		if n.Kind != 0 && n.Tok != (api.Tok{}) || n.Kind == 0 && len(n.Kids) > 0 {
			t.Fatal(samples.TreeWord(n))
		}
		for _, kid := range n.Kids {
			look(kid)
		}
	}
	for range 300 {
		n, code := tree.Build(filled(r.IntN, plainEvents(some(r.IntN, 50))))
		if code != api.OK {
			t.Fatal(samples.ErrorWord(code))
		}
		look(n)
	}
}

// Texts are any bytes, places and Feeds any numbers: a token stands in the tree as it is.
func TestP13_1TokensAsTheyAre(t *testing.T) {
	for _, x := range []api.Tok{
		{}, {Text: "\xff\x00\n"}, {Kind: 255, Text: "{"}, {Kind: api.TokText, Place: api.Place{At: -1, Line: -2, Column: -3}, Feeds: -4}, placed("a", 1<<40),
	} {
		builds(t, []api.Event{event("+Sum"), {Kind: api.Leaf, Tok: x}, event("-Sum")}, node(api.Sum, api.Node{Tok: x}), api.OK)
		x.Kind = api.TokLine
		builds(t, []api.Event{event("+Sum"), {Kind: api.Note, Tok: x}, event("-Sum")}, node(api.Sum, api.Node{Tok: x}), api.OK)
	}
}

func TestP13_1AsDeepAsMayBe(t *testing.T) {
	for _, n := range []int{998, 999, 1000} {
		builds(t, events(times(n, "+Not")+times(n, "-Not")), deep(n), api.OK)
		builds(t, events(times(n, "+Not")+"a {c}"+times(n, " -Not")), deep(n, leaf("a"), leaf("{c}")), api.OK)
	}
	for _, n := range []int{1001, 1002, 2000, 65536} {
		builds(t, events(times(n, "+Not")+times(n, "-Not")), api.Node{}, api.ErrTreeForm)
	}
	builds(t, events(times(1000000, "+Not")), api.Node{}, api.ErrTreeForm)
}

// What counts is how many are open at once, not how many there are, and not how deep tokens stand.
func TestP13_1NodesThatAreOpenAtOnce(t *testing.T) {
	in := func(n int, words string) []api.Event { return events(times(n, "+Not") + words + times(n, " -Not")) }
	sum := node(api.Sum)
	builds(t, in(999, "+Sum -Sum +Sum -Sum +Sum -Sum"), deep(999, sum, sum, sum), api.OK)
	builds(t, in(999, "+Sum -Sum a +Sum a {c} -Sum"), deep(999, sum, leaf("a"), node(api.Sum, leaf("a"), leaf("{c}"))), api.OK)
	builds(t, in(1000, "+Sum -Sum"), api.Node{}, api.ErrTreeForm)
	builds(t, in(999, "+Sum +Sum -Sum -Sum"), api.Node{}, api.ErrTreeForm)
	builds(t, in(1, times(999, "+Not")+times(999, "-Not")+times(999, "+Not")+times(999, "-Not")), node(api.Not, deep(999), deep(999)), api.OK)
	builds(t, in(1, times(999, "+Not")+times(999, "-Not")+times(1000, "+Not")+times(1000, "-Not")), api.Node{}, api.ErrTreeForm)
	many := make([]api.Node, 5000)
	for i := range many {
		many[i] = sum
	}
	builds(t, in(1, times(5000, "+Sum -Sum")), node(api.Not, many...), api.OK)
	// Each is deep enough for the next one to be wrong alone.
	for _, words := range []string{"+0 -0", "-Sum", "?", "note:a", "leaf:{c}", "+Sum"} {
		builds(t, in(999, words), api.Node{}, api.ErrTreeForm)
		builds(t, in(1000, words), api.Node{}, api.ErrTreeForm)
	}
}
