package check_test

import (
	"math/rand/v2"
	"strings"
	"testing"

	"colophon/api"
	"colophon/grammar"
	"colophon/parse"
	"colophon/samples"
)

// Of two that say the same, and have the same blank lines where chapter 15 looks at them, Format tells the same; told by
// hand, beside such that are not the same there.
func TestP18_3BlankLines(t *testing.T) {
	for _, c := range []struct {
		a, b  string
		alike bool
	}{
		// Between statements, and between declarations, it is looked whether there is one; how many does not matter.
		{"program p;begin skip;skip end.", "program p;begin skip;\nskip end.", true},
		{"program p;begin skip;\n\nskip end.", "program p;begin skip;\n\n \n\t\nskip end.", true},
		{"program p;begin skip;skip end.", "program p;begin skip;\n\nskip end.", false},
		{"program p;var a:t;begin skip end.", "program p;\n\nvar a:t;begin skip end.", false},
		{"program p;\n\n\nvar a:t;begin skip end.", "program p;\n\nvar a:t;begin skip end.", true},
		// Ahead of all, within a statement, ahead of an end and where a block begins it is not.
		{"program p;begin skip end.", "\n\n\nprogram p;begin skip end.", true},
		{"program p;begin a:=b end.", "program p;begin a\n\n:=\n\nb end.", true},
		{"program p;begin skip end.", "program p;begin\n\nskip end.", true},
		{"program p;begin skip end.", "program p;begin skip\n\nend\n\n.\n\n", true},
		{"program p;begin skip end.", "program\n\np\n\n;\n\nbegin skip end.", true},
		// Ahead of a comment that stands alone it is, but for the first one of all, and where a block begins.
		{"program p;begin skip;\n{x}skip end.", "program p;begin skip;\n\n{x}skip end.", false},
		{"program p;begin skip;\n\n\n{x}skip end.", "program p;begin skip;\n\n{x}skip end.", true},
		{"program p;begin\n{x}skip end.", "program p;begin\n\n{x}skip end.", true},
		{"{x}program p;begin skip end.", "\n\n{x}program p;begin skip end.", true},
		{"program p;begin{x}skip end.", "program p;begin{x}\n\nskip end.", false},
	} {
		holdsSame(t, c.a, c.b, yes)
		for _, width := range []int{1, 72} {
			if got := told(t, width, c.a) == told(t, width, c.b); got != c.alike {
				t.Errorf("%q and %q at %d: the same is told: %v, not %v", c.a, c.b, width, got, c.alike)
			}
		}
	}
}

// gapKind is what may stand ahead of a token so that no comment comes to be behind another thing, and no blank line is gone
// or new where it is looked at.
type gapKind int

const (
	inLine  gapKind = iota // no line end: a comment that is behind
	oneEnd                 // one line end: a comment that is alone, without a blank line
	few                    // none or one: no blank line
	many                   // two or more: a blank line
	noBlank                // one or more: it is not looked at
	free                   // any number: it is not looked at
)

// feeds are some line ends of such a gap.
func (k gapKind) feeds(pick func(n int) int) int {
	switch k {
	case inLine:
		return 0
	case oneEnd:
		return 1
	case few:
		return pick(2)
	case many:
		return 2 + pick(3)
	case noBlank:
		return 1 + pick(4)
	}
	return pick(5)
}

// begins says whether a block begins behind a word, where no blank line is looked at.
func begins(tok api.Tok) bool {
	return tok.Kind == api.TokKey && strings.Contains(" begin then else do repeat record ", " "+tok.Text+" ")
}

// looked says of each token, comments too, whether it is one at which chapter 15 looks for a blank line: a comment, or the
// first token of a declaration, a member or a statement.
func looked(l []api.Tok) []bool {
	var all []bool
	mark := false
	p := parse.New()
	for _, tok := range l {
		events, _ := p.Put(tok)
		for _, e := range events {
			switch e.Kind {
			case api.Open:
				mark = mark || strings.Contains(" Var Const Proc Member Skip Act If While For Repeat Return Compound ", " "+samples.NodeWord(e.Node)+" ")
			case api.Leaf, api.Note:
				all = append(all, mark || e.Kind == api.Note)
				mark = false
			}
		}
	}
	return all
}

// gapKinds are the gaps ahead of tokens, picked where there is a choice that is seen.
func gapKinds(pick func(n int) int, l []api.Tok) []gapKind {
	var all []gapKind
	for i, look := range looked(l) {
		tok, ahead := l[i], api.Tok{Kind: api.TokLine}
		if i > 0 {
			ahead = l[i-1]
		}
		comment := tok.Kind == api.TokLine || tok.Kind == api.TokBlock
		kind := free
		switch {
		case i == 0:
		case comment && ahead.Kind != api.TokLine && pick(2) == 0:
			kind = inLine
		case comment && begins(ahead):
			kind = noBlank
		case comment:
			kind = []gapKind{oneEnd, many}[pick(2)]
		case look && !begins(ahead):
			kind = []gapKind{few, many}[pick(2)]
		}
		all = append(all, kind)
	}
	return all
}

// spaced is a source of tokens with such gaps between them.
func spaced(pick func(n int) int, l []api.Tok, kinds []gapKind) string {
	var b strings.Builder
	for i, tok := range l {
		n := kinds[i].feeds(pick)
		if i > 0 && l[i-1].Kind == api.TokLine {
			n = max(n, 1)
		}
		b.WriteString(" " + strings.Repeat("\n"+" \t\r"[:pick(4)], n) + tok.Text)
	}
	return b.String() + strings.Repeat("\n", pick(3))
}

// Programs of any shape with comments in them, twice, with any blanks and line ends that are not looked at.
func TestP18_3SomeBlankLines(t *testing.T) {
	t.Parallel()
	g := grammar.New()
	r := rand.New(rand.NewPCG(18, 6))
	other := 0
	for size := range 180 {
		l := samples.Noted(g.Some(r.IntN, size), func(int) int { return max(0, r.IntN(9)-6) })
		kinds := gapKinds(r.IntN, l)
		a, b := spaced(r.IntN, l, kinds), spaced(r.IntN, l, kinds)
		holdsSame(t, a, b, yes)
		for _, width := range []int{1, 1 + r.IntN(60), 72} {
			if one, two := told(t, width, a), told(t, width, b); one != two {
				t.Fatalf("%q at %d:\n%s\n%q:\n%s", a, width, one, b, two)
			}
		}
		if told(t, 72, spaced(r.IntN, l, gapKinds(r.IntN, l))) != told(t, 72, a) {
			other++
		}
	}
	if other < 60 {
		t.Errorf("just %d are told otherwise with other gaps", other)
	}
}
