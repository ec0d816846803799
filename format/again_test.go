package format_test

import (
	"math/rand/v2"
	"slices"
	"strings"
	"testing"

	"colophon/api"
	"colophon/grammar"
	"colophon/samples"
)

// again holds, at some widths, that what is told of a source says the same, and is told again of itself: at the same width,
// and at each other one as it is told of the source.
func again(t *testing.T, source string, widths ...int) {
	t.Helper()
	said := samples.Said(tokens(source))
	told := make([]string, len(widths))
	for i, width := range widths {
		got := formatted(width, source)
		if got.wrong != "" || !strings.HasSuffix(got.text, "\n") || strings.HasSuffix(got.text, "\n\n") || strings.HasPrefix(got.text, "\n") {
			t.Fatalf("%s at %d: %s", samples.Short(source), width, got)
		}
		if now := samples.Said(tokens(got.text)); !slices.Equal(now, said) {
			t.Fatalf("%s at %d: %s\nsays %s\nnot %s", samples.Short(source), width, got, samples.AnswerWord(now, api.OK, api.Place{}), samples.AnswerWord(said, api.OK, api.Place{}))
		}
		told[i] = got.text
	}
	for i, text := range told {
		for k, width := range widths {
			if got := formatted(width, text); !got.same(answer{text: told[k]}) {
				t.Fatalf("%s at %d: %s\nand then at %d: %s", samples.Short(source), widths[i], samples.Short(text), width, got)
			}
		}
	}
}

func TestP16_3Examples(t *testing.T) {
	t.Parallel()
	for _, x := range samples.Examples() {
		for width := 1; width <= 80; width++ {
			again(t, x.Source, width)
		}
		again(t, x.Source, 1, 2, 20, 72, api.MaxWidth-1, api.MaxWidth)
	}
}

// Each gap at each place of programs that have all forms.
func TestP16_3AtEveryPlace(t *testing.T) {
	for _, source := range samples.Programs() {
		t.Run(source, func(t *testing.T) {
			t.Parallel()
			l := tokens(source)
			for at := range len(l) + 1 {
				for _, gap := range samples.Gaps() {
					again(t, samples.Gapped(l, func(i int) string {
						if i == at {
							return gap
						}
						return ""
					}), 1, 20)
				}
			}
		})
	}
}

// Each gap at all places at once.
func TestP16_3AtAllPlaces(t *testing.T) {
	t.Parallel()
	for _, source := range samples.Programs() {
		for _, gap := range samples.Gaps() {
			again(t, samples.Gapped(tokens(source), func(int) string { return gap }), 1, 5, 13, 34, 89, api.MaxWidth)
		}
	}
}

// Programs of any shape, with any gaps, at any width.
func TestP16_3SomePrograms(t *testing.T) {
	t.Parallel()
	g := grammar.New()
	r := rand.New(rand.NewPCG(16, 4))
	for size := range 300 {
		again(t, samples.SomeGapped(r.IntN, g.Some(r.IntN, size)), 1+r.IntN(10), 1+r.IntN(40), 1+r.IntN(100), 72)
	}
}

// Whatever bytes stand in texts, chars and comments: they stay.
func TestP16_3AnyBytes(t *testing.T) {
	t.Parallel()
	for b := range 256 {
		c := string([]byte{byte(b)})
		source := "{" + c + "}//" + c + "\nprogram p;{" + c + c + "}begin{\xc3" + c + "} skip//\xe6" + c + "\n\n//" + c + "a\n\nend.//" + c
		if c == "}" {
			source = strings.ReplaceAll(source, c+"}", "}")
			source = strings.ReplaceAll(source, c+"}", "}")
		}
		if c == "\n" {
			source = strings.ReplaceAll(source, "a\n", "\n")
		}
		again(t, source, 1, 20, 72)
		if b >= ' ' && b != 0x7f && c != "\"" && c != "'" {
			again(t, "program p;begin a:=\"\xc3"+c+"\xff\"+'"+c+"'+\""+c+"\" end.", 1, 20, 72)
		}
	}
}

// Parts that stand deep in one another, and great programs.
func TestP16_3DeepAndGreatOnes(t *testing.T) {
	t.Parallel()
	for _, source := range []string{
		"program p;begin a:=" + strings.Repeat("(", 198) + "b" + strings.Repeat(")", 198) + " end.",
		"program p;" + strings.Repeat("begin{c}\n\n", 200) + "skip" + strings.Repeat("\n\n//d\n end", 200) + ".",
		"program p;" + strings.Repeat("proc f;//c\n", 200) + "begin skip end" + strings.Repeat(";begin skip end", 200) + ".",
		"program p;var a:" + strings.Repeat("record\n\nb:{c}", 250) + "t" + strings.Repeat(" end", 250) + ";begin skip end.",
		"program p;begin " + strings.Repeat("a:=b;", 15000) + "skip end.",
		"program p;begin a:=b" + strings.Repeat("+c", 30000) + " end.",
		"program " + strings.Repeat("p", api.MaxTok) + ";//" + strings.Repeat("\u65e5", api.MaxTok/3-1) + "\nbegin{" + strings.Repeat("\n", api.MaxTok-2) + "}skip end.",
	} {
		again(t, source, 1, 72, api.MaxWidth)
	}
}

// What is told of a source may have more bytes than one that is formatted whole: then Layout's ErrLong goes ahead (P16.1).
func TestP16_3LongerThanASource(t *testing.T) {
	source := "program p;begin " + strings.Repeat("a;", 100000) + "a end."
	got := formatted(72, source)
	if len(got.text) <= api.MaxText || !slices.Equal(samples.Said(tokens(got.text)), samples.Said(tokens(source))) {
		t.Fatal(got)
	}
	refuses(t, wrong{got.text, "error 2 at 0 0:0"})
}
