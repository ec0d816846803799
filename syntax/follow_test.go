package syntax_test

import (
	"math/rand/v2"
	"slices"
	"strings"
	"testing"

	"colophon/api"
	"colophon/grammar"
	"colophon/parse"
	"colophon/samples"
	"colophon/tree"
)

// parsed is what chapter 12's parser tells of tokens: all events, one behind the other, or the error and the token at which
// it comes; at the end: how many tokens there are.
func parsed(l []api.Tok) ([]api.Event, api.Errno, int) {
	p := parse.New()
	var events []api.Event
	for i, tok := range l {
		more, code := p.Put(tok)
		if code != api.OK {
			return nil, code, i
		}
		events = append(events, more...)
	}
	more, code := p.Close()
	if code != api.OK {
		return nil, code, len(l)
	}
	return append(events, more...), api.OK, 0
}

// follows holds what follows of an answer: the parser tells the same, and the tree has the tokens as they are, each once,
// and no node without kids.
func follows(t *testing.T, l []api.Tok) answer {
	t.Helper()
	a := program(l)
	events, code, at := parsed(l)
	if a.code != code || a.at != at {
		t.Fatalf("%s: %s, and the parser tells %s at %d", texts(l), a, samples.ErrorWord(code), at)
	}
	if code != api.OK {
		if !samples.EqualTrees(a.n, api.Node{}) {
			t.Fatalf("%s: %s", texts(l), a)
		}
		return a
	}
	if got := tree.Events(a.n); !slices.Equal(got, events) {
		t.Fatalf("%s: %s, and the parser tells %s", texts(l), samples.EventsWord(got, api.OK), samples.EventsWord(events, api.OK))
	}
	if got := slices.Collect(tree.Toks(a.n)); !slices.Equal(got, l) {
		t.Fatalf("%s: the tree has %s", texts(l), texts(got))
	}
	if a.n.Kind != api.Program || tree.Depth(a.n) > api.MaxDepth {
		t.Fatalf("%s: %s", texts(l), a)
	}
	sound(t, a.n)
	return a
}

// sound holds that each node has kids and no token, and each token has no kids; and that what has no meaning is zero.
func sound(t *testing.T, n api.Node) {
	t.Helper()
	if n.Kind == 0 && len(n.Kids) > 0 || n.Kind != 0 && (len(n.Kids) == 0 || n.Tok != api.Tok{}) || n.Kind > api.Value {
		t.Fatalf("unsound: %s", samples.TreeWord(n))
	}
	for _, kid := range n.Kids {
		sound(t, kid)
	}
}

func TestP14_2Programs(t *testing.T) {
	for _, source := range samples.Programs() {
		for _, times := range []func(int) int{func(int) int { return 0 }, func(int) int { return 1 }, func(at int) int { return at % 3 }} {
			if a := follows(t, samples.Noted(tokens(source), times)); a.code != api.OK {
				t.Errorf("%s: %s", source, a)
			}
		}
	}
}

// All rows of few tokens, good and wrong ones: the parser tells the same.
func TestP14_2AllRowsOfFewTokens(t *testing.T) {
	t.Parallel()
	for _, c := range [][3]string{
		{"", "program p;begin skip end.{c}", ""},
		{"program p;begin ", "a:=({c}),1-", "end."},
		{"program p;begin ", "skip;if a then else end", "end."},
		{"program p;", "var a,:t;proc begin", "skip end."},
	} {
		few, end := tokens(c[1]), tokens(c[2])
		var grow func(l []api.Tok, more int)
		grow = func(l []api.Tok, more int) {
			follows(t, l)
			follows(t, behind(l, end...))
			for _, tok := range few {
				if more > 0 {
					grow(behind(l, tok), more-1)
				}
			}
		}
		grow(tokens(c[0]), 4)
	}
}

func TestP14_2SomePrograms(t *testing.T) {
	t.Parallel()
	g := grammar.New()
	r := rand.New(rand.NewPCG(14, 2))
	words := sorts(g)
	for size := range 150 {
		l := commented(r.IntN, g.Some(r.IntN, 10*size))
		if a := follows(t, l); a.code != api.OK {
			t.Fatal(a)
		}
		for range 5 {
			at := r.IntN(len(l))
			other := slices.Replace(slices.Clone(l), at, at+1, words[r.IntN(len(words))])
			follows(t, other)
			follows(t, other[:r.IntN(len(l))])
		}
	}
}

// Deep ones: the parser tells the same at each depth around 1000.
func TestP14_2Deep(t *testing.T) {
	t.Parallel()
	for _, n := range samples.Nests() {
		for _, times := range []int{1, 2, 166, 167, 198, 199, 249, 250, 332, 333, 496, 497, 498, 499, 990, 991, 992, 993, 1001} {
			follows(t, tokens(n.Source(times)))
		}
	}
	for n := 195; n < 202; n++ {
		follows(t, tokens("program p;begin a:="+strings.Repeat("(", n)+"b"+strings.Repeat(")", n)+" end."))
	}
}

// Of two lists that are unlike in comments, places and line feeds alone the trees are the Same; of any others they are not.
func TestP14_2Same(t *testing.T) {
	t.Parallel()
	g := grammar.New()
	r := rand.New(rand.NewPCG(14, 3))
	words := sorts(g)
	others := 0
	for size := range 100 {
		l := g.Some(r.IntN, 4*size)
		a, b := program(commented(r.IntN, l)), program(commented(r.IntN, l))
		if a.code != api.OK || b.code != api.OK || !tree.Same(a.n, b.n) || !tree.Same(b.n, program(l).n) {
			t.Fatalf("%s and %s are not the Same", a, b)
		}
		for range 20 {
			at := r.IntN(len(l))
			other := slices.Replace(slices.Clone(l), at, at+1, words[r.IntN(len(words))])
			if c := program(commented(r.IntN, other)); c.code == api.OK {
				same := other[at].Kind == l[at].Kind && other[at].Text == l[at].Text
				if tree.Same(a.n, c.n) != same {
					t.Fatalf("%s and %s", a, c)
				}
				if !same {
					others++
				}
			}
		}
	}
	if others < 50 {
		t.Errorf("just %d others", others)
	}
}

// Sources that are laid out in other ways are the Same.
func TestP14_2SameSources(t *testing.T) {
	for _, source := range samples.Programs() {
		a := follows(t, tokens(source))
		for _, other := range []string{
			strings.ReplaceAll(source, ";", " ;\n\n {note}\n "),
			strings.ReplaceAll(source, " ", "\n\t//note\n"),
			"{note}\n" + source + "//note",
		} {
			if b := follows(t, tokens(other)); b.code != api.OK || !tree.Same(a.n, b.n) {
				t.Errorf("%q and %q", source, other)
			}
		}
	}
	for i, a := range samples.Programs() {
		for j, b := range samples.Programs() {
			if tree.Same(program(tokens(a)).n, program(tokens(b)).n) != (i == j) {
				t.Errorf("%q and %q", a, b)
			}
		}
	}
}

// Each beginning of a program is ErrParseEnd; with a token behind it that can't stand there: ErrParseTok at that.
func TestP14_3Beginnings(t *testing.T) {
	t.Parallel()
	g := grammar.New()
	r := rand.New(rand.NewPCG(14, 4))
	programs := [][]api.Tok{}
	for _, source := range samples.Programs() {
		programs = append(programs, tokens(source), samples.Noted(tokens(source), func(at int) int { return (at + 1) % 3 }))
	}
	for size := range 10 {
		programs = append(programs, commented(r.IntN, g.Some(r.IntN, 5*size)))
	}
	words := sorts(g)
	for _, l := range programs {
		last := len(l)
		for comment(l[last-1]) {
			last--
		}
		for i := range last {
			answers(t, l[:i], answer{code: api.ErrParseEnd, at: i})
			holds(t, g, behind(l[:i], words[r.IntN(len(words))]))
			holds(t, g, behind(l[:i], samples.Nowhere()[i%9]))
		}
		for i := last; i <= len(l); i++ {
			if a := program(l[:i]); a.code != api.OK {
				t.Errorf("%s: %s", texts(l[:i]), a)
			}
			for _, tok := range words {
				answers(t, behind(l[:i], tok), answer{code: api.ErrParseTok, at: i})
			}
		}
	}
}
