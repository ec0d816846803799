package syntax_test

import (
	"math"
	"slices"
	"testing"

	"colophon/api"
	"colophon/grammar"
	"colophon/samples"
)

// No tokens at all, and comments alone: no program, and ahead of it all comments are counted.
func TestP14_1NoTokens(t *testing.T) {
	answers(t, nil, answer{code: api.ErrParseEnd})
	answers(t, []api.Tok{}, answer{code: api.ErrParseEnd})
	for n := range 20 {
		answers(t, samples.Noted(nil, func(int) int { return n }), answer{code: api.ErrParseEnd, at: n})
	}
}

// Of a name, a number, a text and a character the kind alone counts: any Text is the same tree, and stands in it.
func TestP14_1KindsThatCountAlone(t *testing.T) {
	l := tokens("program p;var a:t;begin a(b,1,\"t\",'c').d:=2;for i:=3 to 'd' do skip end end.")
	want := program(l)
	if want.code != api.OK {
		t.Fatal(want)
	}
	for i, tok := range l {
		if tok.Kind == api.TokKey || tok.Kind == api.TokSign {
			continue
		}
		for _, text := range samples.TokTexts() {
			other := slices.Clone(l)
			other[i].Text = text
			answers(t, other, answer{n: changed(want.n, tok, other[i])})
		}
	}
}

// changed is a tree with another token in the place of one.
func changed(n api.Node, was, is api.Tok) api.Node {
	if n.Kind == 0 && n.Tok == was {
		return api.Node{Tok: is}
	}
	n.Kids = slices.Clone(n.Kids)
	for i, kid := range n.Kids {
		n.Kids[i] = changed(kid, was, is)
	}
	return n
}

// A kind that is none of api's, and a word or a sign that the language has not, stands nowhere; nor does a word that is put
// as a sign, or a sign as a word. At each place of a program each kind with each text is held against the grammar.
func TestP14_1KindsAndTexts(t *testing.T) {
	t.Parallel()
	g := grammar.New()
	for _, source := range []string{
		"", "program ", "program p;", "program p;begin ", "program p;begin skip", "program p;begin skip end", "program p;begin skip end.",
		"program p;begin a", "program p;begin a:=", "program p;begin a[1", "program p;begin a(", "program p;begin return", "program p;var a",
		"program p;var a:array[1", "program p;var a:record b:t", "program p;proc f", "program p;proc f(a:t", "program p;begin repeat skip",
	} {
		l := tokens(source)
		for kind := range 256 {
			for _, text := range samples.TokTexts() {
				tok := api.Tok{Kind: api.TokKind(kind), Text: text}
				want := answer{code: api.ErrParseTok, at: len(l)}
				if comment(tok) || kind >= 1 && kind <= 8 && g.Begins(behind(l, tok)) {
					want = plain(g, behind(l, tok))
				}
				answers(t, behind(l, tok), want)
			}
		}
	}
}

// Each token of some programs, with another kind or with another text: just that is what the plain way looks at, too.
func TestP14_1AnotherKindOrAnotherText(t *testing.T) {
	t.Parallel()
	g := grammar.New()
	for _, source := range samples.Programs() {
		l := tokens(source)
		for i, tok := range l {
			for kind := range api.TokKind(12) {
				other := slices.Clone(l)
				other[i].Kind = kind
				holds(t, g, other)
			}
			for _, text := range []string{"", "a", "1", ";", "end", tok.Text + " ", " " + tok.Text, tok.Text + tok.Text} {
				other := slices.Clone(l)
				other[i].Text = text
				holds(t, g, other)
			}
		}
	}
}

// Places and Feeds count for nothing, and stand in the tree as they are.
func TestP14_1PlacesCountForNothing(t *testing.T) {
	g := grammar.New()
	for _, source := range samples.Programs() {
		l := samples.Noted(tokens(source), func(at int) int { return at % 2 })
		for i := range l {
			l[i].Place = api.Place{At: math.MaxInt - i, Line: -i, Column: math.MinInt + i}
			l[i].Feeds = -7 * i
		}
		if a := holds(t, g, l); a.code != api.OK {
			t.Error(a)
		}
	}
}

// Comments ahead of the first token, between any two and behind the last one; one, and several in a row; in programs and
// in their beginnings, and in beginnings with a token behind them that can't stand.
func TestP14_1Comments(t *testing.T) {
	t.Parallel()
	g := grammar.New()
	wrong := api.Tok{Kind: api.TokSign, Text: "?"}
	for _, source := range samples.Programs() {
		l := tokens(source)
		for end := range len(l) + 1 {
			for place := range end + 1 {
				for _, n := range []int{1, 3} {
					at := func(at int) int {
						if at == place {
							return n
						}
						return 0
					}
					if end == len(l) {
						holds(t, g, samples.Noted(l, at))
					} else {
						answers(t, samples.Noted(l[:end], at), answer{code: api.ErrParseEnd, at: end + n})
					}
					answers(t, behind(samples.Noted(l[:end], at), wrong, l[0], wrong), answer{code: api.ErrParseTok, at: end + n})
				}
			}
		}
		for _, many := range []func(at int) int{
			func(int) int { return 1 },
			func(at int) int { return at % 3 },
			func(at int) int { return (at + 2) % 3 },
		} {
			holds(t, g, samples.Noted(l, many))
		}
	}
}

// Where comments stand, told by hand.
func TestP14_1WhereCommentsStand(t *testing.T) {
	for source, want := range map[string]string{
		"{1}program p;begin skip end.":                            "{Program: {1}, program, p, ;, {Block: begin, {Body: {Skip: skip}}, end}, .}",
		"//1\n{2}program{3}p{4};{5}begin{6}skip{7}end{8}.{9}//10": "{Program: //1, {2}, program, {3}, p, {4}, ;, {5}, {Block: begin, {6}, {Body: {Skip: skip, {7}}}, end, {8}}, ., {9}, //10}",
		"program p;begin a{1}:={2}b{3}[{4}c{5}]{6}+{7}1{8};{9}skip end.": "{Program: program, p, ;, {Block: begin, {Body: {Act: {Object: a, {1}}, :=, {2}, " +
			"{Expr: {Rel: {Sum: {Term: {Object: b, {3}, {Index: [, {4}, " + e("{Object: c, {5}}") + ", ], {6}}}}, +, {7}, {Term: {Value: 1, {8}}}}}}}, ;, {9}, {Skip: skip}}, end}, .}",
		"program p;{1}var{2}a{3},b:{4}t{5};{6}begin skip end.": "{Program: program, p, ;, {1}, {Block: {Var: var, {2}, a, {3}, ,, b, :, {4}, {NameType: t, {5}}, ;, {6}}, " +
			"begin, {Body: {Skip: skip}}, end}, .}",
		"program p;begin return{1};f({2}){3}end.": "{Program: program, p, ;, {Block: begin, {Body: {Return: return, {1}}, ;, {Act: {Object: f, {Args: (, {2}, ), {3}}}}}, end}, .}",
		"program p;proc f{1}({2}a:t{3}){4};begin skip end{5};{6}begin skip end.": "{Program: program, p, ;, {Block: {Proc: proc, f, {1}, {Params: (, {2}, {Param: a, :, {NameType: t, {3}}}, ), {4}}, ;, " +
			"{Block: begin, {Body: {Skip: skip}}, end, {5}}, ;, {6}}, begin, {Body: {Skip: skip}}, end}, .}",
	} {
		has(t, source, want)
	}
}

// A comment of any Text is one, also where that is a word or a sign.
func TestP14_1CommentsOfAnyText(t *testing.T) {
	g := grammar.New()
	for _, text := range samples.TokTexts() {
		for _, kind := range []api.TokKind{api.TokLine, api.TokBlock} {
			note := api.Tok{Kind: kind, Text: text, Feeds: 3}
			l := tokens("program p;begin a end.")
			for i := range len(l) + 1 {
				if a := holds(t, g, slices.Insert(slices.Clone(l), i, note, note)); a.code != api.OK {
					t.Errorf("%s: %s", text, a)
				}
			}
		}
	}
}
