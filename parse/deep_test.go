package parse_test

import (
	"strings"
	"testing"

	"colophon/api"
	"colophon/grammar"
	"colophon/parse"
	"colophon/samples"
)

// nest is a part of a program that stands in itself.
type nest struct{ samples.Nest }

func (n nest) row(times int) []api.Tok { return tokens(n.Source(times)) }

// depths are how many nodes are open behind each token of a row, with the part as often as is asked for. The grammar says
// it of three times, and each time more is as much deeper as the third is than the second.
func (n nest) depths(t *testing.T, g *grammar.Grammar, times int) []int {
	var three []int
	for _, a := range courseOf(t, g, n.row(3)).puts {
		three = append(three, a.depth)
	}
	first, part := len(tokens(n.Ahead)), len(tokens(n.Part))
	second, third, rest := three[first+part:][:part], three[first+2*part:][:part], three[first+3*part:]
	each := third[0] - second[0]
	l := append([]int{}, three[:first+3*part]...)
	for more := 1; more <= times-3; more++ {
		for _, depth := range third {
			l = append(l, depth+more*each)
		}
	}
	for _, depth := range rest {
		l = append(l, depth+(times-3)*each)
	}
	return l
}

// holds that the first token that would have more than 1000 nodes open is told, and none ahead of it; and is it.
func (n nest) holds(t *testing.T, times int, depths []int) (last int) {
	t.Helper()
	l := n.row(times)
	p := parse.New()
	for i, tok := range l {
		got := put(p, tok)
		if depths[i] > api.MaxDepth {
			if want := (answer{code: api.ErrParseDeep, depth: depths[i-1]}); !got.same(want) {
				t.Fatalf("%s%d times %s: at %d %s, not %s", n.Ahead, times, n.Part, i, got, want)
			}
			isStuck(t, p, api.ErrParseDeep, depths[i-1])
			return i
		}
		if got.code != api.OK || got.depth != depths[i] {
			t.Fatalf("%s%d times %s: at %d %s, not %d", n.Ahead, times, n.Part, i, got, depths[i])
		}
	}
	return len(l)
}

// Parts within one another, as often as they may, and more often.
func TestP12_2Deep(t *testing.T) {
	t.Parallel()
	g := grammar.New()
	for _, part := range samples.Nests() {
		n := nest{part}
		three := n.depths(t, g, 3)
		each := (n.depths(t, g, 1003)[len(n.row(1003))-1] - three[len(three)-1]) / 1000
		good, bad := 0, 0
		for times := 960 / each; times*each < 1010; times++ {
			if n.holds(t, times, n.depths(t, g, times)) < len(n.row(times)) {
				bad++
			} else {
				good++
			}
		}
		if good == 0 || bad == 0 {
			t.Errorf("%s%s: %d good ones and %d others", n.Ahead, n.Part, good, bad)
		}
	}
}

// 999, 1000 and 1001 nodes at once: each minus sign is one more, within Program, Block, Body, Act, Expr, Rel, Sum and Term.
func TestP12_2AtTheBound(t *testing.T) {
	for _, c := range []struct {
		signs int
		want  string
	}{
		{990, "+Minus - [998] | +Object b [999] | ErrParseEnd [0]"},
		{991, "+Minus - [999] | +Object b [1000] | ErrParseEnd [0]"},
		{992, "+Minus - [1000] | ErrParseDeep [1000] | ErrParseDeep [0]"},
		{993, "+Minus - [1000] | ErrParseDeep [1000] | ErrParseDeep [1000] | ErrParseDeep [0]"},
	} {
		got := said(tokens("program p;begin a:=" + strings.Repeat("- ", c.signs) + "b"))
		if !strings.HasSuffix(got, " | "+c.want) {
			t.Errorf("%d minus signs: .. %s, not %s", c.signs, got[max(0, len(got)-200):], c.want)
		}
	}
}

// With 1000 open: what opens nothing can come, and so can a comment; what would open one more is too deep; what can't stand
// at all can't, deep or not.
func TestP12_2WhatMayComeAtTheBound(t *testing.T) {
	for behind, want := range map[string]string{
		"{x}":   "note:{x} [1000] | ErrParseEnd [0]",
		".":     "ErrParseDeep [1000] | ErrParseDeep [0]",
		"[":     "ErrParseDeep [1000] | ErrParseDeep [0]",
		"(":     "ErrParseDeep [1000] | ErrParseDeep [0]",
		"{x}(":  "note:{x} [1000] | ErrParseDeep [1000] | ErrParseDeep [0]",
		"({x}":  "ErrParseDeep [1000] | ErrParseDeep [1000] | ErrParseDeep [0]",
		"*":     "-Minus * [8] | ErrParseEnd [0]",
		"+":     "-Minus -Term + [7] | ErrParseEnd [0]",
		"end":   "-Minus -Term -Sum -Rel -Expr -Act -Body end [2] | ErrParseEnd [0]",
		"1":     "ErrParseTok [1000] | ErrParseTok [0]",
		"d":     "ErrParseTok [1000] | ErrParseTok [0]",
		"not":   "ErrParseTok [1000] | ErrParseTok [0]",
		"begin": "ErrParseTok [1000] | ErrParseTok [0]",
		")":     "ErrParseTok [1000] | ErrParseTok [0]",
	} {
		p := behindDeep(t)
		var words []string
		for _, tok := range tokens(behind) {
			words = append(words, put(p, tok).String())
		}
		got := strings.Join(append(words, closed(p).String()), " | ")
		// Of the many nodes that end there, just the last ones are looked at.
		if !strings.HasSuffix(got, want) {
			t.Errorf("%q: %s, not %s", behind, got, want)
		}
	}
	for _, tok := range sorts(grammar.New()) {
		p := behindDeep(t)
		if got := put(p, tok); got.depth > api.MaxDepth || got.code != api.OK && got.depth != api.MaxDepth {
			t.Errorf("%s at the bound: %s", samples.TokWord(tok), got)
		}
	}
}

// behindDeep is a parser with 1000 nodes open: the last of them an Object.
func behindDeep(t *testing.T) *parse.Parser {
	t.Helper()
	p := behind(t, tokens("program p;begin a:="+strings.Repeat("- ", 991)+"b"))
	if p.Depth() != api.MaxDepth {
		t.Fatalf("%d nodes", p.Depth())
	}
	return p
}

// Where nodes end as others begin, at the bound, 1000 are open again and again.
func TestP12_2OneForAnother(t *testing.T) {
	p := behind(t, tokens("program p;begin a:="+strings.Repeat("- ", 986)+"("))
	for _, c := range []struct{ tok, want string }{
		{"b", "+Expr +Rel +Sum +Term +Object b [1000]"},
		{"*", "-Object * [999]"},
		{"1", "+Value 1 [1000]"},
		{"+", "-Value -Term + [998]"},
		{"-", "+Term +Minus - [1000]"},
	} {
		if got := put(p, tokens(c.tok)[0]).String(); got != c.want {
			t.Errorf("%s: %s, not %s", c.tok, got, c.want)
		}
	}
	isTooDeep(t, p, "c")
	p = behind(t, tokens("program p;begin a:="+strings.Repeat("- ", 986)+"(b=c and d or e<f"))
	if p.Depth() != api.MaxDepth {
		t.Errorf("%d nodes", p.Depth())
	}
	isTooDeep(t, p, ".")
}

func isTooDeep(t *testing.T, p *parse.Parser, tok string) {
	t.Helper()
	depth := p.Depth()
	if got, want := put(p, tokens(tok)[0]), (answer{code: api.ErrParseDeep, depth: depth}); !got.same(want) {
		t.Errorf("%s: %s, not %s", tok, got, want)
	}
	isStuck(t, p, api.ErrParseDeep, depth)
}

// As the chapter on the tree counts: 198 brackets are 999 deep, with 199 the name within is too much, with 200 the last one.
func TestP12_2Brackets(t *testing.T) {
	for brackets, want := range map[int]int{197: 994, 198: 999} {
		l := tokens("program p;begin a:=" + strings.Repeat("(", brackets) + "b" + strings.Repeat(")", brackets) + " end.")
		if _, code := all(l); code != api.OK {
			t.Errorf("%d brackets: %s", brackets, samples.ErrorWord(code))
		}
		if depth := behind(t, l[:6+brackets+1]).Depth(); depth != want {
			t.Errorf("%d brackets: %d nodes, not %d", brackets, depth, want)
		}
	}
	ahead := tokens("program p;begin a:=" + strings.Repeat("(", 199))
	for _, tok := range []string{"b", "("} {
		isTooDeep(t, behind(t, ahead), tok)
	}
}

// Deep programs of each sort, up to their end: the deepest that may be, and those that are deeper.
func TestP12_3DeepPrograms(t *testing.T) {
	for _, c := range []struct {
		ahead, first, middle, last, behind string
		times                              int
	}{
		{"program p;begin a:=", "(", "b", ")", " end.", 198},
		{"program p;begin a:=", "- ", "b", "", " end.", 991},
		{"program p;begin ", "begin ", "skip", " end", " end.", 498},
		{"program p;", "proc f;", "begin skip end", ";begin skip end", ".", 498},
		{"program p;var a:", "record b:", "t", " end", ";begin skip end.", 498},
		{"program p;var a:", "array[1..2]of ", "t", "", ";begin skip end.", 992},
	} {
		for times := c.times - 1; times <= c.times+2; times++ {
			l, code := all(tokens(c.ahead + strings.Repeat(c.first, times) + c.middle + strings.Repeat(c.last, times) + c.behind))
			want := api.OK
			if times > c.times {
				want = api.ErrParseDeep
			}
			if code != want {
				t.Errorf("%d times %s: %s", times, c.first, samples.ErrorWord(code))
			}
			if open := opened(l); code == api.OK && open != 0 {
				t.Errorf("%d times %s: %d nodes more begin than end", times, c.first, open)
			}
		}
	}
}

// opened is how many more nodes begin than end.
func opened(l []api.Event) int {
	n := 0
	for _, e := range l {
		switch e.Kind {
		case api.Open:
			n++
		case api.Close:
			n--
		}
	}
	return n
}

// Long programs are no deep ones.
func TestP12_2Long(t *testing.T) {
	l := tokens("program p;" + strings.Repeat("var a:t;proc f;begin skip end;", 2000) + "begin skip" +
		strings.Repeat(";a[1](b).c:=(d)+e*f and g;if a then skip end;begin skip end", 2000) + " end.")
	p := parse.New()
	most := 0
	for _, tok := range l {
		if _, code := p.Put(tok); code != api.OK {
			t.Fatal(samples.ErrorWord(code))
		}
		most = max(most, p.Depth())
	}
	if got := closed(p).String(); got != "-Program [0]" || most != 14 {
		t.Errorf("%s, at most %d", got, most)
	}
}
