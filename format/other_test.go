package format_test

import (
	"math/rand/v2"
	"slices"
	"testing"

	"colophon/api"
	"colophon/grammar"
	"colophon/samples"
)

// follows holds what both calls tell of a source against the other way.
func follows(t *testing.T, source string, widths ...int) answer {
	t.Helper()
	want := otherWay(source)
	got := layout(source)
	if !got.same(want) {
		t.Fatalf("Layout of %s: %s, not %s", samples.Short(source), got, want)
	}
	for _, width := range widths {
		told := answer{wrong: want.wrong}
		if want.wrong == "" {
			told.text = streamed(width, want.laid)
		}
		if got := formatted(width, source); !got.same(told) {
			t.Fatalf("Format of %s at %d: %s, not %s", samples.Short(source), width, got, told)
		}
	}
	return got
}

// All short sources, alone, within a program and behind one.
func TestP16_1ShortSources(t *testing.T) {
	t.Parallel()
	for s := range samples.Texts(samples.SourceParts(), 3) {
		follows(t, s)
		follows(t, "program p;begin a:="+s+" end.")
	}
	for s := range samples.Texts(samples.SourceParts(), 2) {
		follows(t, head+s, 1, 72)
		follows(t, head+"end."+s, 1, 72)
		follows(t, s+head+"end.", 1, 72)
	}
}

// All rows of few words.
func TestP16_1AllRowsOfFewWords(t *testing.T) {
	t.Parallel()
	words := []string{"program ", "p ", ";", "begin ", "skip ", "end ", ".", "{c}", "\n\n//c\n", "? "}
	for s := range samples.Texts(words, 4) {
		follows(t, s, 72)
	}
	for s := range samples.Texts([]string{"skip ", ";", "end ", ".", "{c}", "\n\n", "if ", "a", " then ", "'", ":="}, 4) {
		follows(t, "program p;begin "+s, 9)
	}
}

// Programs with all forms: each beginning of them, each without one of its bytes, and each with a byte more.
func TestP16_1ProgramsWithOneByteChanged(t *testing.T) {
	t.Parallel()
	for _, source := range samples.Programs() {
		if got := follows(t, source, 1, 20, 72); got.wrong != "" {
			t.Errorf("%s: %s", source, got)
		}
		for at := range len(source) {
			follows(t, source[:at], 20)
			follows(t, source[:at]+source[at+1:], 20)
			for _, part := range []string{" ", "\n", "\"", "'", "{", "}", "?", "\xff", "a", "1", ";", "(", "//", "{\xc3}", " begin ", " end "} {
				follows(t, source[:at]+part+source[at:], 20)
			}
		}
	}
}

// Programs of any shape, with any gaps, whole, cut and with another token.
func TestP16_1SomePrograms(t *testing.T) {
	t.Parallel()
	g := grammar.New()
	r := rand.New(rand.NewPCG(16, 2))
	words := g.Words()
	for size := range 250 {
		l := g.Some(r.IntN, 2*size)
		source := samples.SomeGapped(r.IntN, l)
		if got := follows(t, source, 1, 1+r.IntN(100), 72, api.MaxWidth); got.wrong != "" {
			t.Fatalf("%s: %s", samples.Short(source), got)
		}
		for range 4 {
			at := r.IntN(len(l))
			changed := slices.Replace(slices.Clone(l), at, at+1, words[r.IntN(len(words))])
			follows(t, samples.SomeGapped(r.IntN, changed), 72)
			follows(t, source[:r.IntN(len(source))], 72)
		}
	}
}

// Parts within one another, up to as deep as may be and deeper.
func TestP16_1DeepOnes(t *testing.T) {
	t.Parallel()
	for _, n := range samples.Nests() {
		for _, times := range []int{1, 2, 166, 199, 250, 333, 498, 500, 992, 1001} {
			follows(t, n.Source(times), 72)
		}
	}
}

// Sources of any tokens, most of them wrong soon.
func TestP16_1SomeSources(t *testing.T) {
	t.Parallel()
	r := rand.New(rand.NewPCG(16, 3))
	for size := range 500 {
		follows(t, samples.SomeSource(r.IntN, size), 72)
		follows(t, head+samples.SomeSource(r.IntN, 1+size%5), 72)
	}
}
