package samples_test

import (
	"math/rand/v2"
	"strings"
	"testing"

	"colophon/api"
	"colophon/samples"
)

// parts is how many nodes and tokens a tree has.
func parts(n api.Node) int {
	all := 1
	for _, kid := range n.Kids {
		all += parts(kid)
	}
	return all
}

func TestTrees(t *testing.T) {
	tokens := []api.Tok{{Text: "a"}, {Text: "b"}, {Text: "c"}, {Text: "d"}}
	kinds := []api.NodeKind{api.Sum, api.Term}
	// 6 of one part, 12 of two, 96 of three, 912 of four: reckoned by hand.
	for most, want := range []int{0, 6, 18, 114, 1026} {
		met := map[string]int{}
		for _, n := range samples.Trees(tokens, kinds, most) {
			met[samples.TreeWord(n)]++
			if parts(n) > most {
				t.Fatalf("%s has more than %d parts", samples.TreeWord(n), most)
			}
		}
		if len(met) != want {
			t.Errorf("%d unlike trees of at most %d parts, not %d", len(met), most, want)
		}
	}
}

func TestSomeTree(t *testing.T) {
	r := rand.New(rand.NewPCG(13, 1))
	for size := range 300 {
		n := samples.SomeTree(r.IntN, []api.Tok{{Text: "a"}}, []api.NodeKind{api.Sum}, size)
		if n.Kind != api.Sum || parts(n) != size+1 {
			t.Fatalf("of %d: %d parts, %s", size, parts(n), samples.TreeWord(n))
		}
	}
}

func TestTreeWord(t *testing.T) {
	a := api.Tok{Kind: api.TokName, Text: "a", Feeds: 2}
	term := api.Node{Kind: api.Term, Kids: []api.Node{{Tok: a}}}
	for want, n := range map[string]api.Node{
		`Name "a" 0 0:0 2`: {Tok: a},
		`{Skip: }`:         {Kind: api.Skip},
		`{Sum: Name "a" 0 0:0 2, {Term: Name "a" 0 0:0 2}}`: {Kind: api.Sum, Kids: []api.Node{{Tok: a}, term}},
		`{node 99: }(Name "a" 0 0:0 2)`:                     {Kind: 99, Tok: a},
		`Name "a" 0 0:0 2({Term: Name "a" 0 0:0 2})`:        {Tok: a, Kids: []api.Node{term}},
	} {
		if got := samples.TreeWord(n); got != want {
			t.Errorf("%s, not %s", got, want)
		}
	}
	great := api.Node{Kind: api.Sum, Tok: api.Tok{Text: "end"}}
	for range 1000 {
		great.Kids = append(great.Kids, term)
	}
	if got := samples.TreeWord(great); len(got) > 1300 || !strings.HasPrefix(got, "{Sum: {Term: ") || !strings.HasSuffix(got, `}(kind 0 "end" 0 0:0 0)`) {
		t.Error(got)
	}
}

// Trees are equal just if nothing that their words tell is unlike; and a copy is, which shares nothing with what was copied.
func TestEqualTreesAndCopyTree(t *testing.T) {
	trees := samples.Trees([]api.Tok{{Text: "a"}, {Text: "a", Feeds: 1}}, []api.NodeKind{api.Sum, api.Term}, 3)
	trees = append(trees, api.Node{Kind: api.Sum, Tok: api.Tok{Text: "a"}}, api.Node{Tok: api.Tok{Text: "a"}, Kids: []api.Node{{}}})
	for _, a := range trees {
		for _, b := range trees {
			if got, want := samples.EqualTrees(a, b), samples.TreeWord(a) == samples.TreeWord(b); got != want {
				t.Fatalf("%s and %s: %t", samples.TreeWord(a), samples.TreeWord(b), got)
			}
		}
	}
	for _, n := range samples.Trees([]api.Tok{{Text: "a"}}, []api.NodeKind{api.Sum}, 5) {
		word, c := samples.TreeWord(n), samples.CopyTree(n)
		if !samples.EqualTrees(n, c) {
			t.Fatalf("%s, copied: %s", word, samples.TreeWord(c))
		}
		overwrite(c)
		if samples.TreeWord(n) != word {
			t.Fatalf("%s, its copy changed: %s", word, samples.TreeWord(n))
		}
	}
	if !samples.EqualTrees(api.Node{}, api.Node{Kids: []api.Node{}}) {
		t.Error("no kids are not equal to none")
	}
}

// overwrite changes all of a tree's lists.
func overwrite(n api.Node) {
	for i, kid := range n.Kids {
		overwrite(kid)
		n.Kids[i] = api.Node{Kind: 99}
	}
}
