package style_test

import (
	"math/rand/v2"
	"slices"
	"strings"
	"testing"

	"colophon/api"
	"colophon/grammar"
	"colophon/samples"
)

// gaps are what may stand between two tokens: empty lines, and comments of each sort, behind a token and alone, one and
// several, with empty lines around them.
func gaps() []string {
	return []string{
		"", "\n", "\n\n", "\n\n\n", "{c}", "{c}\n", "{c}\n\n", "\n{c}", "\n{c}\n", "\n{c}\n\n", "\n\n{c}", "\n\n{c}\n", "\n\n{c}\n\n", "//c\n", "//c\n\n", "\n//c\n", "\n\n//c\n\n",
		"{c\n  d\n}", "\n{c\n\nd} ", "{c}{d}", "{c}\n{d}", "{c}\n\n{d}", "\n{c}{d}", "{c}//d\n", "\n{c}//d\n\n", "//c\n//d\n", "//c\n\n//d\n", "\n\n//c\n\n{d}\n\n", "// \xff\u65e5 c \t\r\n", "{\xc3}", "//\n",
	}
}

// gapped is a source of tokens, with what gap says ahead of each of them, and behind the last one.
func gapped(l []api.Tok, gap func(at int) string) string {
	var b strings.Builder
	for i, tok := range l {
		b.WriteString(" " + gap(i) + " " + tok.Text)
	}
	return b.String() + " " + gap(len(l))
}

// someSource is a source of tokens with gaps of any sort between them; pick says which of n comes next.
func someSource(pick func(n int) int, l []api.Tok) string {
	all, often := gaps(), 1+pick(20)
	return gapped(l, func(int) string {
		gap := ""
		for pick(often) == 0 && len(gap) < 20 {
			gap += " " + all[pick(len(all))]
		}
		return gap
	})
}

// said are a source's tokens and comments, as far as they are to be the same: of a comment its Feeds are 0, if it is behind
// a token or a comment in its line, and else 1.
func said(source string) []api.Tok {
	var l []api.Tok
	for i, tok := range tokens(source) {
		said := api.Tok{Kind: tok.Kind, Text: tok.Text}
		if (tok.Kind == api.TokLine || tok.Kind == api.TokBlock) && (tok.Feeds > 0 || i == 0) {
			said.Feeds = 1
		}
		l = append(l, said)
	}
	return l
}

// saysTheSame holds that what is printed of a program's layout, at some widths, is a source with the same tokens and
// comments, and of the same layout.
func saysTheSame(t *testing.T, source string, widths ...int) {
	t.Helper()
	l, was := laidOf(t, source), said(source)
	for _, width := range widths {
		text := printed(t, width, l)
		if got := said(text); !slices.Equal(got, was) {
			t.Fatalf("%q, %d:\n%s\n%v\nnot\n%v", source, width, text, got, was)
		}
		if got := laidOf(t, text); !slices.Equal(got, l) {
			t.Fatalf("%q, %d:\n%s\nis laid as\n%s\nnot\n%s", source, width, text, samples.Words(got), samples.Words(l))
		}
		if !strings.HasSuffix(text, "\n") || strings.HasPrefix(text, "\n") || strings.Contains(strings.ReplaceAll(text, "{c\n\nd}", "{}"), "\n\n\n") {
			t.Fatalf("%q, %d: empty lines in\n%s", source, width, text)
		}
	}
}

// Each gap at each place of programs that have all forms.
func TestP15_5AtEveryPlace(t *testing.T) {
	for _, source := range samples.Programs() {
		t.Run(source, func(t *testing.T) {
			t.Parallel()
			l := tokens(source)
			for at := range len(l) + 1 {
				for _, gap := range gaps() {
					saysTheSame(t, gapped(l, func(i int) string {
						if i == at {
							return gap
						}
						return ""
					}), 1, 9, 20, 72)
				}
			}
		})
	}
}

// Each gap at all places at once, and at two places that follow one another.
func TestP15_5AtAllPlaces(t *testing.T) {
	for _, source := range append(samples.Programs(), examples()[3].source) {
		t.Run(source, func(t *testing.T) {
			t.Parallel()
			l := tokens(source)
			for k, gap := range gaps() {
				saysTheSame(t, gapped(l, func(int) string { return gap }), 1, 2, 3, 5, 8, 13, 21, 34, 55, 89, api.MaxWidth)
				for m, other := range gaps() {
					at := (k*len(gaps()) + m) % len(l)
					saysTheSame(t, gapped(l, func(i int) string {
						switch i {
						case at:
							return gap
						case at + 1:
							return other
						}
						return ""
					}), 7, 40)
				}
			}
		})
	}
}

// Programs of any shape, with any gaps, at any width.
func TestP15_5SomePrograms(t *testing.T) {
	t.Parallel()
	g := grammar.New()
	r := rand.New(rand.NewPCG(15, 5))
	for size := range 400 {
		source := someSource(r.IntN, g.Some(r.IntN, size))
		saysTheSame(t, source, 1, 1+r.IntN(10), 1+r.IntN(40), 1+r.IntN(100), 72, api.MaxWidth)
	}
}

// The examples, and programs whose parts stand deep in one another.
func TestP15_5ExamplesAndDeepOnes(t *testing.T) {
	t.Parallel()
	for _, x := range examples() {
		for width := 1; width <= 80; width++ {
			saysTheSame(t, x.source, width)
		}
	}
	for _, source := range []string{
		"program p;begin a:=" + strings.Repeat("(", 198) + "b" + strings.Repeat(")", 198) + " end.",
		"program p;" + strings.Repeat("begin{c}\n\n", 499) + "skip" + strings.Repeat("\n\n//d\n end", 499) + ".",
		"program p;" + strings.Repeat("proc f;//c\n", 498) + "begin skip end" + strings.Repeat(";begin skip end", 498) + ".",
		"program p;var a:" + strings.Repeat("record\n\nb:{c}", 498) + "t" + strings.Repeat(" end", 498) + ";begin skip end.",
	} {
		saysTheSame(t, source, 1, 72, api.MaxWidth)
	}
}
