package syntax_test

import (
	"math/rand/v2"
	"slices"
	"strings"
	"testing"

	"colophon/api"
	"colophon/grammar"
	"colophon/samples"
)

// rows holds what Program answers of all rows of at most so many of some tokens, with others ahead and behind; it is how
// many of them are programs.
func rows(t *testing.T, g *grammar.Grammar, ahead, words, last string, most int) (trees int) {
	few, end := tokens(words), tokens(last)
	var grow func(l []api.Tok, more int, wrong answer)
	grow = func(l []api.Tok, more int, wrong answer) {
		// Behind a token that can't stand nothing changes the answer.
		if wrong.code == api.OK {
			if holds(t, g, behind(l, end...)).code == api.OK {
				trees++
			}
			if a := holds(t, g, l); a.code == api.ErrParseTok {
				wrong = a
			}
		} else {
			answers(t, behind(l, end...), wrong)
		}
		for _, tok := range few {
			if more > 0 {
				grow(behind(l, tok), more-1, wrong)
			}
		}
	}
	grow(tokens(ahead), most, answer{})
	return trees
}

func TestP14_1AllRowsOfFewTokens(t *testing.T) {
	t.Parallel()
	g := grammar.New()
	for _, c := range []struct {
		ahead, words, last string
		most, trees        int // how long they are, and how many programs are among them, or more
	}{
		{"", "program p;begin skip end.{c}1", "", 4, 0},
		{"", "program p;", "begin skip end.", 5, 1},
		{"program p;", "begin skip;end.//c\n", "", 6, 8},
		{"program p;begin ", "a 1:=+({c})", "end.", 5, 80},
		{"program p;begin ", "a[],.()", "end.", 5, 9},
		{"program p;begin a:=", "b-not*(1)", "end.", 5, 100},
		{"program p;begin a:=", "b=and+#'c'\"t\"", "end.", 5, 100},
		{"program p;begin ", "skip;return a-begin end", "end.", 5, 90},
		{"program p;begin if a then ", "skip;elif then else end a", "end.", 5, 10},
		{"program p;begin repeat ", "skip until a;repeat", "end.", 6, 10},
		{"program p;begin while ", "a do skip end;while", "end.", 5, 2},
		{"program p;begin for ", "i:=1 to do skip end", "end.", 3, 0},
		{"program p;begin for i:=1 ", "to 2 do skip end for", "end.", 5, 1},
		{"program p;", "var a:t;const=1,", "begin skip end.", 5, 3},
		{"program p;proc f", "(a:t;),", ";begin skip end;begin skip end.", 5, 3},
		{"program p;proc f;", "proc f;begin skip end", "begin skip end;begin skip end.", 5, 1},
		{"program p;var a:", "array[1..2]of t", ";begin skip end.", 3, 1},
		{"program p;var a:array[1", "..2]of t array[", ";begin skip end.", 5, 2},
		{"program p;var a:record ", "b:t;,record end", ";begin skip end.", 5, 1},
	} {
		if trees := rows(t, g, c.ahead, c.words, c.last, c.most); trees < c.trees {
			t.Errorf("%s, some of %s, %s: just %d programs", c.ahead, c.words, c.last, trees)
		}
	}
}

// growing holds what Program answers of each row that has such tokens, which begin a program, and at most so many more,
// whatever they are, up to the first one that can't stand. It is how many rows these are, and how many begin a program.
func growing(t *testing.T, g *grammar.Grammar, words, l []api.Tok, more int) (all, good int) {
	if more == 0 {
		return 0, 0
	}
	for _, tok := range words {
		all++
		longer := behind(l, tok)
		if !g.Begins(longer) {
			answers(t, longer, answer{code: api.ErrParseTok, at: len(l)})
			continue
		}
		good++
		holds(t, g, longer)
		moreAll, moreGood := growing(t, g, words, longer, more-1)
		all, good = all+moreAll, good+moreGood
	}
	return all, good
}

// All rows of tokens of every sort, up to the first one that can't stand.
func TestP14_1AllRowsOfEverySort(t *testing.T) {
	t.Parallel()
	g := grammar.New()
	all, good := growing(t, g, sorts(g), nil, 8)
	if good < 2000 || all < 5*good {
		t.Errorf("%d rows, of which %d begin a program", all, good)
	}
}

// Behind each beginning of some programs each token more: so the first token that can't stand is told at each
// of their places, whatever it is.
func TestP14_1EachTokenBehindBeginnings(t *testing.T) {
	t.Parallel()
	g := grammar.New()
	for _, source := range samples.Programs() {
		l := tokens(source)
		for i := range len(l) + 1 {
			growing(t, g, sorts(g), l[:i], 1)
		}
	}
}

// At each place of some programs: another token, and one left out; what stands behind is as it was.
func TestP14_1OneTokenWrong(t *testing.T) {
	t.Parallel()
	g := grammar.New()
	wrong := 0
	for _, source := range samples.Programs() {
		l := tokens(source)
		for i := range l {
			if holds(t, g, slices.Delete(slices.Clone(l), i, i+1)).code != api.OK {
				wrong++
			}
			for _, tok := range sorts(g) {
				if holds(t, g, slices.Replace(slices.Clone(l), i, i+1, tok)).code != api.OK {
					wrong++
				}
			}
		}
	}
	if wrong < 5000 {
		t.Errorf("just %d are wrong", wrong)
	}
}

// Greater programs, with comments, and with one token changed.
func TestP14_1SomePrograms(t *testing.T) {
	t.Parallel()
	g := grammar.New()
	r := rand.New(rand.NewPCG(14, 1))
	met := map[api.NodeKind]int{}
	for size := range 100 {
		l := commented(r.IntN, g.Some(r.IntN, 4*size))
		a := holds(t, g, l)
		if a.code != api.OK {
			t.Fatalf("no program: %s", texts(l))
		}
		kinds(a.n, met)
		l[r.IntN(len(l))] = sorts(g)[r.IntN(len(sorts(g)))]
		holds(t, g, l)
	}
	for k := api.Program; k <= api.Value; k++ {
		if met[k] < 20 {
			t.Errorf("%s just %d times", samples.NodeWord(k), met[k])
		}
	}
}

// kinds counts the nodes of a tree.
func kinds(n api.Node, met map[api.NodeKind]int) {
	met[n.Kind]++
	for _, kid := range n.Kids {
		kinds(kid, met)
	}
}

// commented has comments between the tokens, ahead of the first and behind the last one, and places of its own.
func commented(pick func(n int) int, l []api.Tok) []api.Tok {
	with := samples.Noted(l, func(int) int { return max(0, pick(8)-5) })
	for i := range with {
		with[i].Place, with[i].Feeds = api.Place{At: i, Line: pick(9), Column: pick(9)}, pick(3)
	}
	return with
}

// Programs that have rows of many parts: none of them is as deep as it is long.
func TestP14_1LongRows(t *testing.T) {
	const many = 3000
	for ahead, c := range map[string][3]string{
		"program p;":                     {"var a:t;", "begin skip end.", "Block"},
		"program p;var a":                {",a", ":t;begin skip end.", "Var"},
		"program p;var a:record b":       {",b", ":t end;begin skip end.", "Member"},
		"program p;var a:record b:t":     {";b:t", " end;begin skip end.", "Record"},
		"program p;proc f(a:t":           {";b:t", ");begin skip end;begin skip end.", "Params"},
		"program p;begin skip":           {";skip", " end.", "Body"},
		"program p;begin a":              {"[1].b()", " end.", "Object"},
		"program p;begin a:=b":           {" and c", " end.", "Expr"},
		"program p;begin return b":       {"+c", " end.", "Sum"},
		"program p;begin return 'a":      {"'*'b", "' end.", "Term"},
		"program p;begin a[1":            {",1", "] end.", "Index"},
		"program p;begin a(1":            {",1", ") end.", "Args"},
		"program p;begin if a then skip": {" elif b then skip", " end end.", "If"},
	} {
		l := tokens(ahead + strings.Repeat(c[0], many) + c[1])
		a := program(l)
		if a.code != api.OK || a.at != 0 {
			t.Fatalf("%s, %d times %s: %s, %d", ahead, many, c[0], samples.ErrorWord(a.code), a.at)
		}
		if got := most(a.n, samples.NodeOf(c[2])); got < many {
			t.Errorf("%s, %d times %s: %d kids", ahead, many, c[0], got)
		}
		answers(t, l[:len(l)-1], answer{code: api.ErrParseEnd, at: len(l) - 1})
		answers(t, behind(l, l[0]), answer{code: api.ErrParseTok, at: len(l)})
	}
}

// most is how many kids that node of such a kind has which has the most.
func most(n api.Node, kind api.NodeKind) int {
	kids := 0
	if n.Kind == kind {
		kids = len(n.Kids)
	}
	for _, kid := range n.Kids {
		kids = max(kids, most(kid, kind))
	}
	return kids
}
