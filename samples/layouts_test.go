package samples_test

import (
	"slices"
	"strings"
	"testing"

	"colophon/api"
	"colophon/doc"
	"colophon/samples"
)

func TestLayout(t *testing.T) {
	got := samples.Layout(" S B12 H  E [3 [e4 ] a_|b B Bx [e [x \xff")
	want := []api.Doc{
		{Kind: api.Blank}, {Kind: api.Break, Blanks: 12}, {Kind: api.Hard}, {Kind: api.Empty},
		{Kind: api.Begin, Indent: 3}, {Kind: api.Begin, Indent: 4, Even: true}, {Kind: api.End},
		{Kind: api.Text, Text: "a \nb"}, {Kind: api.Text, Text: "B"}, {Kind: api.Text, Text: "Bx"},
		{Kind: api.Text, Text: "[e"}, {Kind: api.Text, Text: "[x"}, {Kind: api.Text, Text: "\xff"},
	}
	if !slices.Equal(got, want) {
		t.Errorf("%v, not %v", got, want)
	}
	if s := samples.Words(append(got, api.Doc{})); s != `S B12 H E [3 [e4 ] "a \nb" "B" "Bx" "[e" "[x" "\xff" ?` {
		t.Error(s)
	}
	if s := samples.Words(slices.Repeat(samples.Layout("S"), 61)); s != strings.Repeat("S ", 60)+".. (61 pieces)" {
		t.Error(s)
	}
}

func TestLayouts(t *testing.T) {
	var got []string
	for l := range samples.Layouts("S [1 ]", 3) {
		got = append(got, samples.Words(l))
	}
	if want := []string{"", "S", "S S", "S S S", "S [1 ]", "[1 S ]", "[1 ]", "[1 ] S"}; !slices.Equal(got, want) {
		t.Errorf("%q, not %q", got, want)
	}
	for l := range samples.Layouts("S [1 ]", 3) {
		if len(l) == 2 {
			break
		}
	}
}

func TestSomeLayout(t *testing.T) {
	next := 0
	pick := func(n int) int { next++; return next * 7 % 11 % n }
	for size := range 100 {
		l := samples.SomeLayout(pick, "a B1 [2 ]", size)
		if e, _ := doc.Check(l); e != api.OK || len(l) > 2*size {
			t.Fatalf("of %d: %s", size, samples.Words(l))
		}
		l = samples.SomePieces(pick, "a B1 [2 ]", size)
		if e, at := doc.Check(l); e != api.OK && at < len(l) || len(l) > size {
			t.Fatalf("of %d: %s", size, samples.Words(l))
		}
	}
}

func TestWrongPieces(t *testing.T) {
	for _, d := range samples.WrongPieces() {
		for _, l := range [][]api.Doc{{d}, {{Kind: api.Begin}, d}} {
			if e, at := doc.Check(l); e != api.ErrDocForm || at != len(l)-1 {
				t.Errorf("%+v: %d at %d", l, e, at)
			}
		}
	}
}

func TestShort(t *testing.T) {
	if s := samples.Short(strings.Repeat("a", 300)); s != `"`+strings.Repeat("a", 300)+`"` {
		t.Error(s)
	}
	if s := samples.Short("b" + strings.Repeat("a", 300)); s != `"b`+strings.Repeat("a", 149)+`" .. "`+strings.Repeat("a", 150)+`" (301 bytes)` {
		t.Error(s)
	}
}
