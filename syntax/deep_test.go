package syntax_test

import (
	"strings"
	"testing"

	"colophon/api"
	"colophon/grammar"
	"colophon/samples"
	"colophon/tree"
)

// nest is a part of a program that stands in itself.
type nest struct{ samples.Nest }

func (n nest) row(times int) []api.Tok { return tokens(n.Source(times)) }

// depths are how deep each token stands, with the part as often as is asked for. The grammar says it of three times, and
// each time more is as much deeper as the third is than the second.
func (n nest) depths(g *grammar.Grammar, times int) []int {
	three := depths(g, n.row(3))
	first, part := len(tokens(n.Ahead)), len(tokens(n.Part))
	third, rest := three[first+2*part:][:part], three[first+3*part:]
	each := third[0] - three[first+part]
	l := append([]int{}, three[:first+3*part]...)
	for more := 1; more <= times-3; more++ {
		for _, deep := range third {
			l = append(l, deep+more*each)
		}
	}
	for _, deep := range rest {
		l = append(l, deep+(times-3)*each)
	}
	return l
}

// holds that the first token that stands more than 1000 deep is told, whatever comes behind it; else it is a beginning.
func (n nest) holds(t *testing.T, g *grammar.Grammar, times int) (good bool) {
	t.Helper()
	l := n.row(times)
	wrong := []api.Tok{{Kind: api.TokSign, Text: "?"}}
	for i, deep := range n.depths(g, times) {
		if deep > api.MaxDepth {
			want := answer{code: api.ErrParseDeep, at: i}
			answers(t, l, want)
			answers(t, behind(l[:i+1], wrong...), want)
			answers(t, l[:i], answer{code: api.ErrParseEnd, at: i})
			answers(t, behind(l[:i], wrong...), answer{code: api.ErrParseTok, at: i})
			answers(t, samples.Noted(l, func(int) int { return 1 }), answer{code: api.ErrParseDeep, at: 2*i + 1})
			return false
		}
	}
	answers(t, l, answer{code: api.ErrParseEnd, at: len(l)})
	answers(t, behind(l, wrong...), answer{code: api.ErrParseTok, at: len(l)})
	return true
}

// Parts within one another, as often as they may, and more often.
func TestP14_1Deep(t *testing.T) {
	t.Parallel()
	g := grammar.New()
	for _, part := range samples.Nests() {
		n := nest{part}
		four, three := n.depths(g, 4), n.depths(g, 3)
		each := four[len(four)-1] - three[len(three)-1]
		good, bad := 0, 0
		for times := 980 / each; times*each < 1000; times++ {
			if n.holds(t, g, times) {
				good++
			} else {
				bad++
			}
		}
		if good == 0 || bad == 0 {
			t.Errorf("%s%s: %d good ones and %d others", n.Ahead, n.Part, good, bad)
		}
	}
}

// The plain way says the same of one that is too deep as of one that is not.
func TestP14_1DeepPlainly(t *testing.T) {
	t.Parallel()
	g := grammar.New()
	for _, source := range []string{
		"program p;begin a:=" + strings.Repeat("(", 198) + "b",
		"program p;begin a:=" + strings.Repeat("(", 199) + "b",
		"program p;begin a:=" + strings.Repeat("{c}(", 199) + ")",
		"program p;begin a:=" + strings.Repeat("(", 200) + ")",
		"program p;" + strings.Repeat("begin{c}", 499) + "skip" + strings.Repeat(" end", 499) + ".",
		"program p;" + strings.Repeat("begin ", 500) + "skip" + strings.Repeat(" end", 500) + ".",
	} {
		holds(t, g, tokens(source))
	}
}

// 999, 1000 and 1001 nodes around a token: each minus sign is one more, within Program, Block, Body, Act, Expr, Rel, Sum
// and Term; and Object.
func TestP14_1AtTheBound(t *testing.T) {
	for signs, want := range map[int]int{990: 999, 991: 1000, 992: 1001, 993: 1002} {
		l := tokens("program p;begin a:=" + strings.Repeat("- ", signs) + "b end.")
		a := program(l)
		if want <= 1000 {
			if a.code != api.OK || a.at != 0 || tree.Depth(a.n) != want {
				t.Errorf("%d minus signs: %s, and %d deep", signs, a, tree.Depth(a.n))
			}
			continue
		}
		// It is the first token that is too deep: the name, or a sign ahead of it.
		if at := 6 + 992; a.code != api.ErrParseDeep || a.at != at {
			t.Errorf("%d minus signs: %s, not at %d", signs, a, at)
		}
	}
}

// atBound are tokens of which the last stands 1000 deep: the name of an Object.
func atBound() []api.Tok { return tokens("program p;begin a:=" + strings.Repeat("- ", 991) + "b") }

// With 1000 nodes around: what is in no more can stand, and so can a comment; what is in one more is too deep; what can't
// stand at all is never too deep.
func TestP14_1WhatMayComeAtTheBound(t *testing.T) {
	l := atBound()
	for more, code := range map[string]api.Errno{
		"": api.ErrParseEnd, "{x}": api.ErrParseEnd, "*": api.ErrParseEnd, "+": api.ErrParseEnd, "=": api.ErrParseEnd, "and": api.ErrParseEnd, ";": api.ErrParseEnd, "end": api.ErrParseEnd,
		".": api.ErrParseDeep, "[": api.ErrParseDeep, "(": api.ErrParseDeep, ".c": api.ErrParseDeep, "(]": api.ErrParseDeep, "[)": api.ErrParseDeep,
		"1": api.ErrParseTok, "d": api.ErrParseTok, "not": api.ErrParseTok, "begin": api.ErrParseTok, ")": api.ErrParseTok, "](": api.ErrParseTok, ":=": api.ErrParseTok,
	} {
		longer := append(l[:len(l):len(l)], tokens(more)...)
		want := answer{code: code, at: len(l)}
		if code == api.ErrParseEnd {
			want.at = len(longer)
		}
		answers(t, longer, want)
	}
	for _, tok := range sorts(grammar.New()) {
		a := program(behind(l, tok))
		opens := tok.Kind == api.TokSign && (tok.Text == "." || tok.Text == "[" || tok.Text == "(")
		if opens != (a.code == api.ErrParseDeep) {
			t.Errorf("%s at the bound: %s", samples.TokWord(tok), a)
		}
	}
	a := program(append(l, tokens("{x}//y\n*c end.")...))
	if a.code != api.OK || a.at != 0 || tree.Depth(a.n) != 1000 {
		t.Errorf("%s, and %d deep", a, tree.Depth(a.n))
	}
}

// Two tokens of which one is too deep and one can't stand: the one that comes first is told.
func TestP14_1DeepOrWrong(t *testing.T) {
	l := atBound()
	wrong, deep := api.Tok{Kind: api.TokKey, Text: "var"}, api.Tok{Kind: api.TokSign, Text: "("}
	answers(t, behind(l, deep, wrong), answer{code: api.ErrParseDeep, at: len(l)})
	answers(t, behind(l, deep, deep), answer{code: api.ErrParseDeep, at: len(l)})
	answers(t, behind(l, wrong, deep), answer{code: api.ErrParseTok, at: len(l)})
	answers(t, append([]api.Tok{wrong}, behind(l, deep)...), answer{code: api.ErrParseTok, at: 0})
	// Between the two the program goes on, out of what was too deep and in again.
	longer := append(l[:len(l):len(l)], tokens("* c;d:="+strings.Repeat("- ", 991)+"e")...)
	answers(t, longer, answer{code: api.ErrParseEnd, at: len(longer)})
	answers(t, behind(longer, deep, wrong), answer{code: api.ErrParseDeep, at: len(longer)})
	answers(t, behind(longer, wrong, deep), answer{code: api.ErrParseTok, at: len(longer)})
}

// What may be left out is left out at the bound, too, where it would be too deep: the token that ends it is in no more.
func TestP14_1LeftOutAtTheBound(t *testing.T) {
	for _, c := range []struct {
		ahead, part, last string
		times             int
		more              string
		code              api.Errno
	}{
		// Program, Block, Body, Act, Expr, Rel, Sum, Term, 990 Minus, Object and Args are 1000.
		{"program p;begin a:=", "- ", "f(", 990, ")", api.ErrParseEnd},
		{"program p;begin a:=", "- ", "f(", 990, "b", api.ErrParseDeep},
		{"program p;begin a:=", "- ", "f(", 990, "]", api.ErrParseTok},
		{"program p;begin a:=", "- ", "f(", 990, "(", api.ErrParseDeep},
		{"program p;begin a:=", "- ", "f[", 990, "b", api.ErrParseDeep},
		{"program p;begin a:=", "- ", "f[", 990, "]", api.ErrParseTok},
		// Program, Block, Body, 498 times Compound and Body, and Return are 1000.
		{"program p;begin ", "begin ", "return", 498, ";", api.ErrParseEnd},
		{"program p;begin ", "begin ", "return", 498, "end", api.ErrParseEnd},
		{"program p;begin ", "begin ", "return", 498, "1", api.ErrParseDeep},
		{"program p;begin ", "begin ", "return", 498, "-", api.ErrParseDeep},
		{"program p;begin ", "begin ", "return", 498, "+", api.ErrParseTok},
		// With one more the Compound itself is the last that can be.
		{"program p;begin ", "begin ", "", 499, "skip", api.ErrParseDeep},
		{"program p;begin ", "begin ", "", 499, "begin", api.ErrParseDeep},
		{"program p;begin ", "begin ", "", 499, "end", api.ErrParseTok},
		{"program p;begin ", "begin ", "", 499, "else", api.ErrParseTok},
		// Program, Block, 499 times Proc and Block are 1000.
		{"program p;", "proc f;", "", 498, "proc", api.ErrParseEnd},
		{"program p;", "proc f;", "begin skip", 498, ";", api.ErrParseEnd},
		{"program p;", "proc f;proc g;", "", 249, "var", api.ErrParseEnd},
		{"program p;", "proc f;", "", 499, "begin", api.ErrParseEnd},
		{"program p;", "proc f;", "", 499, "var", api.ErrParseDeep},
		{"program p;", "proc f;", "", 499, "proc", api.ErrParseDeep},
		{"program p;", "proc f;", "", 499, "end", api.ErrParseTok},
		{"program p;", "proc f;", "begin ", 499, "skip", api.ErrParseDeep},
		{"program p;", "proc f;", "begin ", 499, "end", api.ErrParseTok},
	} {
		l := append(tokens(c.ahead+strings.Repeat(c.part, c.times)+c.last), tokens(c.more)...)
		want := answer{code: c.code, at: len(l) - 1}
		if c.code == api.ErrParseEnd {
			want.at++
		}
		answers(t, l, want)
		answers(t, l[:len(l)-1], answer{code: api.ErrParseEnd, at: len(l) - 1})
	}
}

// Deep programs of each sort, up to their end: the deepest that may be, and those that are deeper.
func TestP14_1DeepPrograms(t *testing.T) {
	for _, c := range []struct {
		ahead, first, middle, last, behind string
		times, deep                        int
	}{
		{"program p;begin a:=", "(", "b", ")", " end.", 198, 999},
		{"program p;begin a:=", "- ", "b", "", " end.", 991, 1000},
		{"program p;begin ", "begin ", "skip", " end", " end.", 498, 1000},
		{"program p;", "proc f;", "begin skip end", ";begin skip end", ".", 498, 1000},
		{"program p;var a:", "record b:", "t", " end", ";begin skip end.", 498, 1000},
		{"program p;var a:", "array[1..2]of ", "t", "", ";begin skip end.", 992, 1000},
	} {
		for times := c.times - 1; times <= c.times+2; times++ {
			l := tokens(c.ahead + strings.Repeat(c.first, times) + c.middle + strings.Repeat(c.last, times) + c.behind)
			a := program(l)
			switch {
			case times > c.times && a.code != api.ErrParseDeep:
				t.Errorf("%d times %s: %s, %d", times, c.first, samples.ErrorWord(a.code), a.at)
			case times <= c.times && (a.code != api.OK || a.at != 0):
				t.Errorf("%d times %s: %s, %d", times, c.first, samples.ErrorWord(a.code), a.at)
			case times == c.times && tree.Depth(a.n) != c.deep:
				t.Errorf("%d times %s: %d deep", times, c.first, tree.Depth(a.n))
			}
		}
	}
}
