package syntax_test

import (
	"math/rand/v2"
	"runtime"
	"slices"
	"strings"
	"sync"
	"testing"
	"weak"

	"colophon/api"
	"colophon/grammar"
	"colophon/samples"
	"colophon/syntax"
	"colophon/tree"
)

// lists are tokens of programs and of such as are none.
func lists() [][]api.Tok {
	g := grammar.New()
	r := rand.New(rand.NewPCG(14, 5))
	var all [][]api.Tok
	for size := range 60 {
		l := commented(r.IntN, g.Some(r.IntN, 5*size))
		wrong := slices.Clone(l)
		wrong[r.IntN(len(l))] = sorts(g)[r.IntN(len(sorts(g)))]
		all = append(all, l, l[:r.IntN(len(l))], wrong)
	}
	return append(all, tokens("program p;begin a:="+strings.Repeat("(", 300)), nil)
}

// The list that is handed in is not changed, nor its spare room.
func TestR2TheListIsNotWrittenInto(t *testing.T) {
	for _, l := range lists() {
		full := append(slices.Clone(l), tokens("spare {spare} spare")...)
		was := slices.Clone(full)
		program(full[:len(l)])
		if !slices.Equal(full, was) {
			t.Fatalf("%s is %s now", texts(was), texts(full))
		}
	}
}

// scribble writes over all of a tree's lists, and over their spare room.
func scribble(n api.Node) {
	for _, kid := range n.Kids {
		scribble(kid)
	}
	all := n.Kids[:cap(n.Kids)]
	for i := range all {
		all[i] = api.Node{Kind: 98, Tok: api.Tok{Text: "scribbled"}}
	}
}

// What is told is the caller's own: it hangs on the list no more, nor on another answer.
func TestR2WhatIsToldIsTheCallersOwn(t *testing.T) {
	for _, l := range lists() {
		was := slices.Clone(l)
		first, second := program(l), program(l)
		want := answer{samples.CopyTree(second.n), second.code, second.at}
		scribble(first.n)
		if !slices.Equal(l, was) || !second.same(want) {
			t.Fatalf("%s: behind writing into an answer another is %s", texts(was), second)
		}
		for i := range l {
			l[i] = api.Tok{Kind: 99, Text: "scribbled"}
		}
		if !second.same(want) {
			t.Fatalf("%s: behind writing into the list it is %s", texts(was), second)
		}
		answers(t, was, want)
	}
}

// No two lists of an answer share memory: what is put behind one list's end is seen in no other.
func TestR2ListsOfAnAnswerShareNothing(t *testing.T) {
	for _, l := range lists() {
		got := program(l)
		want := answer{samples.CopyTree(got.n), got.code, got.at}
		var fill func(n api.Node)
		fill = func(n api.Node) {
			spare := n.Kids[len(n.Kids):cap(n.Kids)]
			for i := range spare {
				spare[i] = api.Node{Tok: api.Tok{Text: "spare"}}
			}
			for _, kid := range n.Kids {
				fill(kid)
			}
		}
		fill(got.n)
		if !got.same(want) {
			t.Fatalf("its spare room filled: %s, not %s", got, want)
		}
	}
}

// programOfOwn is Program of a list that no one else has, and where that list stands.
func programOfOwn(source string) (api.Node, weak.Pointer[api.Tok]) {
	l := tokens(source)
	n, _, _ := syntax.Program(l)
	return n, weak.Make(&l[0])
}

func TestR2TheListIsNotKept(t *testing.T) {
	for _, source := range append(samples.Programs(), "program p;begin", "{a}program p program") {
		n, list := programOfOwn(source)
		runtime.GC()
		if list.Value() != nil {
			t.Errorf("%s: the list is kept", source)
		}
		runtime.KeepAlive(n)
	}
}

// The same again: an answer hangs on nothing that was ahead of it, be that an error or not.
func TestR2TheSameAgain(t *testing.T) {
	all := lists()
	first := make([]answer, len(all))
	for i, l := range all {
		first[i] = program(l)
	}
	for i, l := range slices.Backward(all) {
		answers(t, l, first[i])
	}
}

func TestR2Goroutines(t *testing.T) {
	all := lists()
	want := make([]answer, len(all))
	for i, l := range all {
		want[i] = program(l)
	}
	var wait sync.WaitGroup
	for range 8 {
		wait.Go(func() {
			for i, l := range all {
				if got := program(l); !got.same(want[i]) {
					t.Errorf("%s: %s in a goroutine, not %s", texts(l), got, want[i])
					return
				}
			}
		})
	}
	wait.Wait()
}

// No panic comes out, whatever the tokens are.
func TestR1AnyTokens(t *testing.T) {
	g := grammar.New()
	r := rand.New(rand.NewPCG(14, 6))
	words, odd := sorts(g), samples.TokTexts()
	for range 20000 {
		l := slices.Clone(samples.Noted(tokens("program p;begin"), func(int) int { return r.IntN(2) }))
		for range r.IntN(8) {
			tok := words[r.IntN(len(words))]
			if r.IntN(4) == 0 {
				tok = api.Tok{Kind: api.TokKind(r.IntN(256)), Text: odd[r.IntN(len(odd))]}
			}
			l = append(l, tok)
		}
		l = l[r.IntN(3)*r.IntN(2):]
		a := program(l)
		good := a.code == api.OK && a.at == 0 && a.n.Kind == api.Program
		wrong := a.code == api.ErrParseTok && a.at < len(l) || a.code == api.ErrParseEnd && a.at == len(l)
		if !good && !(wrong && samples.EqualTrees(a.n, api.Node{})) {
			t.Fatalf("%s: %s", texts(l), a)
		}
	}
}

// Great lists: a way that begins again at the front for each part would not end here.
func TestR1AGreatProgram(t *testing.T) {
	const many = 1 << 16
	l := tokens("program p;begin a:=" + strings.Repeat("- ", 900) + "(b" + strings.Repeat("+c{d}", many) + ")end.")
	a := program(l)
	if a.code != api.OK || a.at != 0 || tree.Depth(a.n) != 915-1 || most(a.n, api.Sum) != 2*many+1 {
		t.Errorf("%s, %d, %d deep, %d kids", samples.ErrorWord(a.code), a.at, tree.Depth(a.n), most(a.n, api.Sum))
	}
	answers(t, l[:len(l)-1], answer{code: api.ErrParseEnd, at: len(l) - 1})
	for _, deep := range []string{"(", "- ", "not ", "a[", "a("} {
		l := tokens("program p;begin a:=" + strings.Repeat(deep, many))
		if a := program(l); a.code != api.ErrParseDeep || a.at > 2010 {
			t.Errorf("%d times %s: %s", many, deep, a)
		}
	}
}
