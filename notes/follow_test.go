package notes_test

import (
	"math/rand/v2"
	"slices"
	"strings"
	"testing"

	"colophon/api"
	"colophon/grammar"
	"colophon/notes"
	"colophon/samples"
	"colophon/scan"
)

// said is what a token says: P19.3 speaks of no places.
type said struct {
	kind api.TokKind
	text string
}

// saidBesides is what the tokens of a source say that are no comments, and how many comments there are.
func saidBesides(l []api.Tok) ([]said, int) {
	var all []said
	comments := 0
	for _, tok := range l {
		if tok.Kind == api.TokLine || tok.Kind == api.TokBlock {
			comments++
			continue
		}
		all = append(all, said{tok.Kind, tok.Text})
	}
	return all, comments
}

// strips holds what P19.3 says of Strip: it has no comments, the same other tokens, and is itself stripped. It is a source
// then that scan takes.
func strips(t *testing.T, source string) {
	t.Helper()
	l, code, _ := scan.All(source)
	got := stripped(source)
	if (got.wrong == "") != (code == api.OK) {
		t.Fatalf("Strip(%s): %s, and scan tells %s", samples.Short(source), got, samples.ErrorWord(code))
	}
	if code != api.OK {
		return
	}
	now, code, at := scan.All(got.text)
	want, _ := saidBesides(l)
	others, comments := saidBesides(now)
	if code != api.OK || comments > 0 || !slices.Equal(others, want) {
		t.Fatalf("Strip(%s): %s has the tokens %s", samples.Short(source), got, samples.AnswerWord(now, code, at))
	}
	if again := stripped(got.text); again != got {
		t.Fatalf("Strip(%s): %s, and of that %s", samples.Short(source), got, again)
	}
	if rest, err := notes.Of(got.text); err != nil || len(rest) > 0 {
		t.Fatalf("Strip(%s): %s has the comments %s", samples.Short(source), got, samples.Short(remarks(got.text)))
	}
}

func TestP19_3StripOfAllShortSources(t *testing.T) { shortSources(t, samples.SourceParts(), 3, strips) }

func TestP19_3StripOfSomeLongerSources(t *testing.T) { shortSources(t, noteParts(), 5, strips) }

// What would be one token, or another one, or a comment, if nothing were left of a block.
func TestP19_3StripKeepsTokensApart(t *testing.T) {
	for _, parts := range [][2]string{
		{"a", "b"}, {"a", "1"}, {"1", "2"}, {"be", "gin"}, {"end", "s"}, {":", "="}, {".", "."}, {"<", "="}, {">", "="}, {"/", "/"}, {"/", "//x"}, {"a", "\u00e9"}, {"\"a\"", "\"b\""}, {"'a'", "'b'"},
	} {
		for _, between := range []string{"{x}", "{}", "{\n}", "{x}{y}", "{/}", "{x}//y\n", "//x\n", "//x \t\r\n", "//\n{x}"} {
			strips(t, parts[0]+between+parts[1])
		}
	}
}

func TestP19_3StripOfLongSources(t *testing.T) {
	t.Parallel()
	r := rand.New(rand.NewPCG(19, 3))
	for range 300 {
		s := samples.SomeSource(r.IntN, 1+r.IntN(400))
		strips(t, s)
		strips(t, s[:r.IntN(len(s))])
	}
}

func TestP19_3StripOfAnyBytes(t *testing.T) {
	t.Parallel()
	r := rand.New(rand.NewPCG(19, 4))
	for range 20000 {
		b := make([]byte, r.IntN(12))
		for i := range b {
			b[i] = byte(r.IntN(256))
		}
		strips(t, string(b))
		strips(t, "\"\xc3\"{"+string(b)+"}'\xe6'//"+string(b))
	}
}

// A program without its comments is one, and is formatted as its tokens are.
func TestP19_3StripOfPrograms(t *testing.T) {
	t.Parallel()
	g := grammar.New()
	r := rand.New(rand.NewPCG(19, 5))
	for size := range 100 {
		l := g.Some(r.IntN, size)
		source := samples.SomeGapped(r.IntN, l)
		strips(t, source)
		text := told(t, 72, stripped(source).text)
		want, _ := saidBesides(l)
		if now, comments := saidBesides(tokens(text)); comments > 0 || !slices.Equal(now, want) {
			t.Fatalf("%s without its comments: %s", samples.Short(source), samples.Short(text))
		}
	}
}

// stays holds, at some widths, that Of of a source and of what Format tells of it are the same.
func stays(t *testing.T, source string, widths ...int) {
	t.Helper()
	want, err := notes.Of(source)
	if err != nil {
		t.Fatalf("Of(%s): %v", samples.Short(source), err)
	}
	for _, width := range widths {
		text := told(t, width, source)
		if got, err := notes.Of(text); err != nil || !slices.Equal(got, want) {
			t.Fatalf("Of(%s): %s, and of %s at %d: %s", samples.Short(source), samples.Short(remarks(source)), samples.Short(text), width, samples.Short(remarks(text)))
		}
	}
}

func TestP19_3FormattedExamples(t *testing.T) {
	t.Parallel()
	for _, x := range samples.Examples() {
		for width := 1; width <= 80; width += 3 {
			stays(t, x.Source, width)
		}
		stays(t, x.Source, api.MaxWidth)
		holdsOf(t, x.Want, remarks(x.Source))
	}
}

// Every width there is, of one source.
func TestP19_3EveryWidth(t *testing.T) {
	t.Parallel()
	const source = "\n{0}program p;//a\nbegin{b}f(a,b{c}\n,c):=d+//e\ne{f\n}\n\n{g}{h}//i\nend.//j"
	for width := 1; width <= api.MaxWidth; width++ {
		stays(t, source, width)
	}
	holdsOf(t, source, "0 alone {0}; 3 behind //a; 4 behind {b}; 9 behind {c}; 15 behind //e; 16 behind {f\n}; 16 alone {g}; 16 behind {h}; 16 behind //i; 18 behind //j")
}

// Each gap at each place of programs that have all forms, and at all places at once.
func TestP19_3FormattedAtEveryPlace(t *testing.T) {
	for k, source := range samples.Programs() {
		t.Run(source, func(t *testing.T) {
			t.Parallel()
			l := tokens(source)
			for i, gap := range samples.Gaps() {
				for place := range len(l) + 1 {
					if (i+place+k)%2 == 0 {
						stays(t, samples.Gapped(l, func(at int) string { return strings.Repeat(gap, count(at == place)) }), []int{1, 20, 72}[i%3])
					}
				}
				stays(t, samples.Gapped(l, func(int) string { return gap }), 1, 13, 72)
			}
		})
	}
}

func count(yes bool) int {
	if yes {
		return 1
	}
	return 0
}

// Programs of any shape, with any gaps, at any width.
func TestP19_3FormattedPrograms(t *testing.T) {
	t.Parallel()
	g := grammar.New()
	r := rand.New(rand.NewPCG(19, 6))
	for size := range 130 {
		stays(t, samples.SomeGapped(r.IntN, g.Some(r.IntN, size)), 1+r.IntN(10), 1+r.IntN(100))
	}
}

// Whatever bytes stand in comments.
func TestP19_3FormattedAnyBytes(t *testing.T) {
	t.Parallel()
	for b := range 256 {
		c := string([]byte{byte(b)})
		if c != "\n" {
			stays(t, "//"+c+"\nprogram p;//\xe6"+c+"\nbegin skip\n\n//"+c+"a\n\nend.//"+c, 1, 72)
		}
		if c != "}" {
			stays(t, "{"+c+"}program p;{"+c+c+"}{\xc3"+c+"}begin\n{"+c+"}skip end{\n"+c+" \n}.", 1, 72)
		}
	}
}

// Parts that stand deep in one another, comments as long as may be, and what Format tells longer than what it takes.
func TestP19_3FormattedGreatOnes(t *testing.T) {
	t.Parallel()
	many := "program p;begin " + strings.Repeat("a{x};\n//y\n", 25000) + "a end."
	for _, source := range []string{
		"program p;" + strings.Repeat("begin{c}\n\n", 200) + "skip" + strings.Repeat("\n\n//d\n end", 200) + ".",
		"program p;var a:" + strings.Repeat("record\n\nb:{c}", 250) + "t" + strings.Repeat(" end", 250) + ";begin skip end.",
		"program p;//" + strings.Repeat("\u65e5", api.MaxTok/3-1) + "\nbegin{" + strings.Repeat("\n", api.MaxTok-2) + "}//x\nskip end.",
		many,
	} {
		stays(t, source, 1, 72)
	}
	if text := told(t, 72, many); len(text) <= api.MaxText {
		t.Errorf("just %d bytes", len(text))
	}
}
