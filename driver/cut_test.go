package driver_test

import (
	"math/rand/v2"
	"slices"
	"strings"
	"testing"

	"colophon/api"
	"colophon/grammar"
	"colophon/samples"
)

// everything has all sorts of tokens, comments, gaps, characters and bad bytes.
const everything = "{\u65e5}program p; // \u00e9\xff\nvar a, \u00e9: t;\nbegin\n\n  a:=b+ {x\n y} f(1,'\u4e00',\"\xe4\");\n{z}\n\nskip end . //\xe6\x97"

// asFormat holds that what is told of a course's source is what format tells of it.
func (c *course) asFormat(t *testing.T) {
	t.Helper()
	want := formatted(c.width, c.source)
	if got := c.all; got.wrong != want.wrong || got.same != want.same || want.wrong == "" && got.text != want.text {
		t.Fatalf("width %d, %q: %s, and format tells %s", c.width, c.source, got, want)
	}
}

func TestP17_5EverythingCut(t *testing.T) {
	t.Parallel()
	r := rand.New(rand.NewPCG(17, 1))
	for _, width := range []int{1, 10, 30, 72, api.MaxWidth} {
		c := courseOf(width, everything)
		if c.asFormat(t); c.all.wrong != "" {
			t.Error(c.all)
		}
		c.cut(t)
		c.inTwo(t)
		c.bytewise(t, 0)
		c.bytewise(t, 2)
		c.inSome(t, r, 200)
	}
}

func TestP17_5EverythingWithAnErrorCut(t *testing.T) {
	t.Parallel()
	r := rand.New(rand.NewPCG(17, 2))
	for at := range len(everything) + 1 {
		for _, part := range []string{"?", ";", "\"", "'", "{", "\xc3"} {
			c := courseOf(30, everything[:at]+part+everything[at:])
			c.asFormat(t)
			c.bytewise(t, at%2)
			c.inSome(t, r, 4)
		}
		c := courseOf(72, everything[:at])
		c.asFormat(t)
		c.inTwo(t)
	}
}

// All short sources, alone and within a program, in all ways to cut their bytes.
func TestP17_5AllShortSourcesCutInAllWays(t *testing.T) {
	t.Parallel()
	for s := range samples.Texts(samples.FewParts(), 2) {
		for _, around := range [][2]string{{"", ""}, {head, "end."}, {head + ";a:=", "b"}, {head + "end.", ""}} {
			c := courseOf(72, around[0]+s+around[1])
			c.asFormat(t)
			first := len(around[0])
			for ways := range 1 << (len(s) + 1) {
				var ends []int
				for at := range len(s) + 1 {
					if ways>>at&1 == 1 {
						ends = append(ends, first+at)
					}
				}
				c.cut(t, ends...)
			}
			c.bytewise(t, 0)
		}
	}
}

// All rows of few words, byte by byte and in one.
func TestP17_5AllRowsOfFewWords(t *testing.T) {
	t.Parallel()
	words := []string{"program ", "p ", ";", "begin ", "skip ", "end ", ".", "{c}", "\n\n//c\n", "? "}
	for s := range samples.Texts(words, 3) {
		c := courseOf(72, s)
		c.asFormat(t)
		c.cut(t)
		c.bytewise(t, 0)
	}
	for s := range samples.Texts([]string{"skip ", ";", "end ", ".", "{c}", "\n\n", "if ", "a", " then ", ":="}, 3) {
		c := courseOf(9, "program p;begin "+s)
		c.asFormat(t)
		c.cut(t, 16)
		c.bytewise(t, 1)
	}
}

// chunksOf is a source cut behind so many bytes.
func chunksOf(source string, ends []int) []string {
	var l []string
	at := 0
	for _, end := range ends {
		l = append(l, source[at:end])
		at = end
	}
	return append(l, source[at:])
}

// comesTogether holds what is told of a source, however it is cut, against what is told of it in one chunk, and that against
// what format tells.
func comesTogether(t *testing.T, r *rand.Rand, width int, source string) answer {
	t.Helper()
	want, whole := formatted(width, source), together(t, api.Options{Width: width}, source)
	if whole.wrong != want.wrong || whole.same != want.same || want.wrong == "" && whole.text != want.text {
		t.Fatalf("width %d, %q: %s, and format tells %s", width, source, whole, want)
	}
	for i := range 2 {
		ends := someCuts(r, len(source))
		if got := together(t, api.Options{Width: width}, chunksOf(source, ends)...); got != whole {
			t.Fatalf("width %d, %q cut at %d: %s, not %s", width, source, ends, got, whole)
		}
		if got := together(t, api.Options{Width: width, Check: true}, chunksOf(source, ends)...); got != whole.quiet() {
			t.Fatalf("width %d, %q cut at %d, with Check: %s, not %s", width, source, ends, got, whole)
		}
		if i == 0 {
			if got := together(t, api.Options{Width: width}, byBytes(source, 1)...); got != whole {
				t.Fatalf("width %d, %q byte by byte: %s, not %s", width, source, got, whole)
			}
		}
	}
	return whole
}

// Programs of any shape, with any gaps: whole, formatted, cut, with another token and with another byte.
func TestP17_5SomePrograms(t *testing.T) {
	t.Parallel()
	g := grammar.New()
	r := rand.New(rand.NewPCG(17, 3))
	words := g.Words()
	for size := range 120 {
		l := g.Some(r.IntN, 2*size)
		source := samples.SomeGapped(r.IntN, l)
		for _, width := range []int{1 + r.IntN(100), 72 + r.IntN(2)*(api.MaxWidth-72)} {
			got := comesTogether(t, r, width, source)
			if got.wrong != "" {
				t.Fatalf("%q: %s", source, got)
			}
			if got := comesTogether(t, r, width, got.text); !got.same {
				t.Fatalf("%q is formatted, and %s", source, got)
			}
		}
		for range 2 {
			at := r.IntN(len(l))
			changed := slices.Replace(slices.Clone(l), at, at+1, words[r.IntN(len(words))])
			comesTogether(t, r, 72, samples.SomeGapped(r.IntN, changed))
			at = r.IntN(len(source))
			comesTogether(t, r, 72, source[:at])
			comesTogether(t, r, 72, source[:at]+string([]byte{byte(r.IntN(256))})+source[at+1:])
		}
	}
}

// Parts within one another, up to as deep as may be and deeper.
func TestP17_5DeepOnes(t *testing.T) {
	t.Parallel()
	r := rand.New(rand.NewPCG(17, 4))
	for _, n := range samples.Nests() {
		for _, times := range []int{1, 166, 250, 499, 1001} {
			comesTogether(t, r, 72, n.Source(times))
		}
	}
}

// What is told ahead of what is wrong is a beginning of what format tells of every program that begins with the tokens ahead
// of it.
func TestP17_5ABeginningOfEveryProgram(t *testing.T) {
	t.Parallel()
	g := grammar.New()
	r := rand.New(rand.NewPCG(17, 5))
	met := 0
	for size := range 60 {
		source := samples.SomeGapped(r.IntN, g.Some(r.IntN, size))
		width := 1 + r.IntN(40)
		all := formatted(width, source)
		begun := false
		for _, tok := range tokens(source) {
			ahead := source[:tok.Place.At]
			for _, wrong := range []string{"?", "program ", ""} {
				got := together(t, api.Options{Width: width}, ahead+wrong)
				switch {
				case wrong == "program " && !begun || wrong == "" && got.wrong == "": // that may be
				case got.wrong == "" || !strings.HasPrefix(all.text, got.text):
					t.Fatalf("width %d, %q, behind it %q: %s is no beginning of %s", width, ahead, wrong, got, all)
				}
				met += len(got.text)
			}
			begun = begun || tok.Text == "program"
		}
	}
	if met < 100000 {
		t.Errorf("only %d bytes", met)
	}
}

// The same, by ways to go on behind one beginning.
func TestP17_5WaysToGoOn(t *testing.T) {
	g := grammar.New()
	r := rand.New(rand.NewPCG(17, 6))
	met := 0
	for _, source := range samples.Programs() {
		l := tokens(source)
		for n := range len(l) {
			ahead := samples.Gapped(l[:n], func(int) string { return "" })
			for _, width := range []int{1, 9, 20, 72} {
				begun := together(t, api.Options{Width: width}, ahead+" ?")
				if begun.wrong != samples.FaultAt(api.ErrScanByte, samples.EndOf(ahead+" ")) {
					t.Fatalf("%q ?: %s", ahead, begun)
				}
				for _, more := range []string{"", "{c}", "\n\n//c\n", "\n\n", "{" + strings.Repeat("g", 80) + "}", "{\n}"} {
					rest := samples.Gapped(g.Ended(l[:n])[n:], func(at int) string { return []string{more, ""}[min(at, r.IntN(2))] })
					all := formatted(width, ahead+rest)
					if all.wrong != "" || !strings.HasPrefix(all.text, begun.text) {
						t.Fatalf("width %d, %q, and then %q: %s is no beginning of %s", width, ahead, rest, begun, all)
					}
					met++
				}
			}
		}
	}
	if met < 1000 {
		t.Errorf("only %d ways", met)
	}
}
