package style_test

import (
	"math/rand/v2"
	"slices"
	"strings"
	"testing"

	"colophon/api"
	"colophon/grammar"
	"colophon/samples"
)

// said are a source's tokens and comments, as far as they are to be the same.
func said(source string) []api.Tok { return samples.Said(tokens(source)) }

// saysTheSame holds that what is printed of a program's layout, at some widths, is a source with the same tokens and
// comments, and of the same layout.
func saysTheSame(t *testing.T, source string, widths ...int) {
	t.Helper()
	l, was := laidOf(t, source), said(source)
	for _, width := range widths {
		text := printed(t, width, l)
		if got := said(text); !slices.Equal(got, was) {
			t.Fatalf("%q, %d:\n%s\n%v\nnot\n%v", source, width, text, got, was)
		}
		if got := laidOf(t, text); !slices.Equal(got, l) {
			t.Fatalf("%q, %d:\n%s\nis laid as\n%s\nnot\n%s", source, width, text, samples.Words(got), samples.Words(l))
		}
		if !strings.HasSuffix(text, "\n") || strings.HasPrefix(text, "\n") || strings.Contains(strings.ReplaceAll(text, "{c\n\nd}", "{}"), "\n\n\n") {
			t.Fatalf("%q, %d: empty lines in\n%s", source, width, text)
		}
	}
}

// Each gap at each place of programs that have all forms.
func TestP15_5AtEveryPlace(t *testing.T) {
	for _, source := range samples.Programs() {
		t.Run(source, func(t *testing.T) {
			t.Parallel()
			l := tokens(source)
			for at := range len(l) + 1 {
				for _, gap := range samples.Gaps() {
					saysTheSame(t, samples.Gapped(l, func(i int) string {
						if i == at {
							return gap
						}
						return ""
					}), 1, 9, 20, 72)
				}
			}
		})
	}
}

// Each gap at all places at once, and at two places that follow one another.
func TestP15_5AtAllPlaces(t *testing.T) {
	for _, source := range append(samples.Programs(), samples.Examples()[3].Source) {
		t.Run(source, func(t *testing.T) {
			t.Parallel()
			l := tokens(source)
			for k, gap := range samples.Gaps() {
				saysTheSame(t, samples.Gapped(l, func(int) string { return gap }), 1, 2, 3, 5, 8, 13, 21, 34, 55, 89, api.MaxWidth)
				for m, other := range samples.Gaps() {
					at := (k*len(samples.Gaps()) + m) % len(l)
					saysTheSame(t, samples.Gapped(l, func(i int) string {
						switch i {
						case at:
							return gap
						case at + 1:
							return other
						}
						return ""
					}), 7, 40)
				}
			}
		})
	}
}

// Programs of any shape, with any gaps, at any width.
func TestP15_5SomePrograms(t *testing.T) {
	t.Parallel()
	g := grammar.New()
	r := rand.New(rand.NewPCG(15, 5))
	for size := range 400 {
		source := samples.SomeGapped(r.IntN, g.Some(r.IntN, size))
		saysTheSame(t, source, 1, 1+r.IntN(10), 1+r.IntN(40), 1+r.IntN(100), 72, api.MaxWidth)
	}
}

// The examples, and programs whose parts stand deep in one another.
func TestP15_5ExamplesAndDeepOnes(t *testing.T) {
	t.Parallel()
	for _, x := range samples.Examples() {
		for width := 1; width <= 80; width++ {
			saysTheSame(t, x.Source, width)
		}
	}
	for _, source := range []string{
		"program p;begin a:=" + strings.Repeat("(", 198) + "b" + strings.Repeat(")", 198) + " end.",
		"program p;" + strings.Repeat("begin{c}\n\n", 499) + "skip" + strings.Repeat("\n\n//d\n end", 499) + ".",
		"program p;" + strings.Repeat("proc f;//c\n", 498) + "begin skip end" + strings.Repeat(";begin skip end", 498) + ".",
		"program p;var a:" + strings.Repeat("record\n\nb:{c}", 498) + "t" + strings.Repeat(" end", 498) + ";begin skip end.",
	} {
		saysTheSame(t, source, 1, 72, api.MaxWidth)
	}
}
