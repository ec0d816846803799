package check_test

import (
	"math/rand/v2"
	"strings"
	"testing"

	"colophon/api"
	"colophon/grammar"
	"colophon/samples"
)

// again holds, at some widths, that a source and what Format tells of it say the same, and that this is formatted at that
// width.
func again(t *testing.T, source string, widths ...int) {
	t.Helper()
	for _, width := range widths {
		text := told(t, width, source)
		holdsSame(t, source, text, yes)
		if got := is(width, text); got != yes {
			t.Fatalf("%s at %d: %s: %s", samples.Short(source), width, samples.Short(text), got)
		}
	}
}

func TestP18_3Examples(t *testing.T) {
	t.Parallel()
	for i, x := range samples.Examples() {
		again(t, x.Source, api.MaxWidth-1, api.MaxWidth)
		for width := 1 + i%3; width <= 80; width += 3 {
			again(t, x.Source, width)
		}
	}
}

// Every width there is, of one source.
func TestP18_3EveryWidth(t *testing.T) {
	t.Parallel()
	const source = "program p;//a\nbegin{b}f(a,b{c}\n,c):=d+//e\ne{f\n}end."
	text := ""
	for width := 1; width <= api.MaxWidth; width++ {
		if now := told(t, width, source); width < 40 || now != text || width%500 == 0 {
			again(t, source, width)
			text = now
		}
		if got := is(width, text); got != yes {
			t.Fatalf("%q at %d: %s", text, width, got)
		}
	}
}

// Each gap at each place of programs that have all forms.
func TestP18_3AtEveryPlace(t *testing.T) {
	for k, source := range samples.Programs() {
		t.Run(source, func(t *testing.T) {
			t.Parallel()
			for place := range len(tokens(source)) + 1 {
				for i, gap := range samples.Gaps() {
					if (i+place+k)%3 == 0 {
						again(t, at(source, place, gap), []int{1, 20, 72}[i%3])
					}
				}
			}
		})
	}
}

// Each gap at all places at once.
func TestP18_3AtAllPlaces(t *testing.T) {
	t.Parallel()
	for _, source := range samples.Programs() {
		for _, gap := range samples.Gaps() {
			again(t, samples.Gapped(tokens(source), func(int) string { return gap }), 1, 13, 72)
		}
	}
}

// Programs of any shape, with any gaps, at any width.
func TestP18_3SomePrograms(t *testing.T) {
	t.Parallel()
	g := grammar.New()
	r := rand.New(rand.NewPCG(18, 3))
	for size := range 130 {
		again(t, samples.SomeGapped(r.IntN, g.Some(r.IntN, size)), 1+r.IntN(10), 1+r.IntN(100))
	}
}

// Whatever bytes stand in texts, chars and comments.
func TestP18_3AnyBytes(t *testing.T) {
	t.Parallel()
	for b := range 256 {
		c := string([]byte{byte(b)})
		if c != "\n" {
			again(t, "//"+c+"\nprogram p;//\xe6"+c+"\nbegin skip\n\n//"+c+"a\n\nend.//"+c, 1, 72)
		}
		if c != "}" {
			again(t, "{"+c+"}program p;{"+c+c+"}{\xc3"+c+"}begin\n{"+c+"}skip end{\n"+c+" \n}.", 1, 72)
		}
		if b >= ' ' && b != 0x7f && c != "\"" && c != "'" {
			again(t, "program p;begin a:=\"\xc3"+c+"\xff\"+'"+c+"'+\""+c+"\" end.", 1, 72)
		}
	}
}

// Parts that stand deep in one another, and great programs.
func TestP18_3DeepAndGreatOnes(t *testing.T) {
	t.Parallel()
	for _, source := range []string{
		"program p;begin a:=" + strings.Repeat("(", 198) + "b" + strings.Repeat(")", 198) + " end.",
		"program p;" + strings.Repeat("begin{c}\n\n", 200) + "skip" + strings.Repeat("\n\n//d\n end", 200) + ".",
		"program p;var a:" + strings.Repeat("record\n\nb:{c}", 250) + "t" + strings.Repeat(" end", 250) + ";begin skip end.",
		"program p;begin a:=b" + strings.Repeat("+c", 15000) + " end.",
		"program " + strings.Repeat("p", api.MaxTok) + ";//" + strings.Repeat("\u65e5", api.MaxTok/3-1) + "\nbegin{" + strings.Repeat("\n", api.MaxTok-2) + "}skip end.",
	} {
		again(t, source, 1, 72)
	}
}

// What Format tells of a source may have more bytes than one that is taken: that is then told by both calls, as Format and
// Layout do.
func TestP18_3LongerThanASource(t *testing.T) {
	t.Parallel()
	source := "program p;begin " + strings.Repeat("a;", 60000) + "a end."
	text := told(t, 72, source)
	if len(text) <= api.MaxText {
		t.Fatal(len(text))
	}
	long := refused("error 2 at 0 0:0")
	holdsIs(t, 72, text, long)
	holdsSame(t, source, text, long)
	holdsSame(t, text, text, long)
}

// alike are sources of some sorts: those of one sort say the same.
func alike(t *testing.T) [][]string {
	g := grammar.New()
	r := rand.New(rand.NewPCG(18, 4))
	gaps := []string{"", "{c}", "\n{c}", "{c}{d}", "\n{c}{d}", "//c\n", "\n//c\n", "{c\n}"}
	var all [][]string
	for _, source := range []string{"program p;begin skip end.", "program q;begin skip end.", "program p;begin skip;skip end."} {
		for _, gap := range gaps {
			source := at(source, 3, gap)
			all = append(all, []string{source, told(t, 1, source), told(t, 72, source), "\n\n" + strings.ReplaceAll(source, " ", "\r\t ") + "\n\n"})
		}
	}
	for size := range 6 {
		source := samples.SomeGapped(r.IntN, g.Some(r.IntN, 10+size))
		all = append(all, []string{source, told(t, 1, source), told(t, 30, source), told(t, api.MaxWidth, source)})
	}
	return all
}

// Same is an equality: a source and itself, two either way round, and through a third one. Of sources in some sorts all
// pairs are told right, so all three hold of them.
func TestP18_3AnEquality(t *testing.T) {
	t.Parallel()
	all := alike(t)
	for i, row := range all {
		for _, a := range row {
			if got := same(a, strings.Clone(a)); got != yes {
				t.Fatalf("%q and itself: %s", a, got)
			}
			for k, other := range all {
				for _, b := range other {
					if got := same(a, b); got != (answer{yes: i == k}) {
						t.Fatalf("%q and %q: %s", a, b, got)
					}
				}
			}
		}
	}
}

// The same of any three: each pair of them is told alike, however it is asked.
func TestP18_3ThroughAThird(t *testing.T) {
	t.Parallel()
	r := rand.New(rand.NewPCG(18, 5))
	gaps := samples.Gaps()
	some := func() string {
		return samples.Gapped(tokens("program p;begin skip end."), func(i int) string {
			if i == 3 {
				return gaps[r.IntN(len(gaps))]
			}
			return strings.Repeat("\n", r.IntN(3))
		})
	}
	met := 0
	for range 4000 {
		a, b, c := some(), some(), some()
		ab, bc, ac := same(a, b).yes, same(b, c).yes, same(a, c).yes
		if ab && bc && !ac || ab && ac && !bc || ac && bc && !ab {
			t.Fatalf("%q, %q, %q: %v %v %v", a, b, c, ab, bc, ac)
		}
		if ab && bc {
			met++
		}
	}
	if met < 30 {
		t.Errorf("just %d times all three are the same", met)
	}
}
