package check_test

import (
	"math/rand/v2"
	"slices"
	"strings"
	"testing"

	"colophon/api"
	"colophon/format"
	"colophon/grammar"
	"colophon/samples"
)

func TestP18_2Examples(t *testing.T) {
	holdsSame(t, formed, "program p; begin skip // x\nend.", yes)
	holdsSame(t, formed, "program p; begin skip\n// x\nend.", no)
	holdsSame(t, formed, "program p; begin skip {x}\nend.", no)
	holdsSame(t, formed, "program q; begin skip // x\nend.", no)
	for _, c := range []struct{ a, b, want string }{{"x", "?", "ErrParseTok at 0 1:1"}, {formed, "?", "ErrScanByte at 0 1:1"}} {
		if got := same(c.a, c.b); got != refused(c.want) {
			t.Errorf("%q, %q: %s, not %s", c.a, c.b, got, c.want)
		}
	}
	const spaced, alone = "program p;begin skip{x}end.\n", "program p;begin skip\n{x}end.\n"
	holdsSame(t, spaced, told(t, 72, spaced), yes)
	holdsSame(t, spaced, alone, no)
}

// What is wrong with the first source goes ahead of what is wrong with the second; an error is told, whatever the other is.
func TestP18_2Errors(t *testing.T) {
	all := samples.Wrongs()
	for _, c := range all {
		for _, good := range []string{formed, head + "end."} {
			if got := same(c.Source, good); got != refused(c.Want) {
				t.Errorf("%s, %q: %s, not %s", samples.Short(c.Source), good, got, c.Want)
			}
			if got := same(good, c.Source); got != refused(c.Want) {
				t.Errorf("%q, %s: %s, not %s", good, samples.Short(c.Source), got, c.Want)
			}
		}
		for _, d := range all {
			if got := same(c.Source, d.Source); got != refused(c.Want) {
				t.Errorf("%s, %s: %s, not %s", samples.Short(c.Source), samples.Short(d.Source), got, c.Want)
			}
		}
	}
}

// Blanks, line ends and empty lines say nothing, wherever they stand between tokens; the end's neither.
func TestP18_2WhatSaysNothing(t *testing.T) {
	t.Parallel()
	for _, source := range samples.Programs() {
		for place := range len(tokens(source)) + 1 {
			for _, part := range []string{"\t", "\r\n", "\n\n \n"} {
				holdsSame(t, source, at(source, place, part), yes)
			}
		}
	}
}

// A token more, less or another one, with all else the same.
func TestP18_2Tokens(t *testing.T) {
	apart := []string{
		"program p;begin a end.",
		"program q;begin a end.",
		"program P;begin a end.",
		"program \u00e9;begin a end.",
		"program e\u0301;begin a end.",
		"program p;begin b end.",
		"program p;begin a() end.",
		"program p;begin a;a end.",
		"program p;begin begin a end end.",
		"program p;begin a:=1 end.",
		"program p;begin a:=01 end.",
		"program p;begin a:=10 end.",
		"program p;begin a:=\"1\" end.",
		"program p;begin a:='1' end.",
		"program p;begin a:=\"1 \" end.",
		"program p;begin a:=\"1  \" end.",
		"program p;begin a:=\"\xff\" end.",
		"program p;begin a:=\"\xfe\" end.",
		"program p;begin a:=\"\ufffd\" end.",
		"program p;begin a:='\xff' end.",
		"program p;begin a:='\ufffd' end.",
		"program p;begin a:=b end.",
		"program p;begin a:=(b) end.",
		"program p;begin a:=b<c end.",
		"program p;begin a:=b<=c end.",
		"program p;begin a:=b and c end.",
		"program p;begin a:=b or c end.",
		"program p;begin a:=b-c end.",
		"program p;begin a:=b--c end.",
		"program p;begin a:=b[c,d] end.",
		"program p;begin a:=b(c,d) end.",
		"program p;begin a:=b;c end.",
		"program p;begin a:=b;c() end.",
		"program p;var a:t;var b:t;begin a end.",
		"program p;var a,b:t;begin a end.",
		"program p;begin while a do skip end end.",
		"program p;begin repeat skip until a end.",
	}
	for i, a := range apart {
		for k, b := range apart {
			holdsSame(t, a, b, answer{yes: i == k})
			holdsSame(t, a+"\n", " "+b, answer{yes: i == k})
		}
	}
}

// Comments: their kinds and their bytes, their number and their order, and the tokens that they stand between.
func TestP18_2Comments(t *testing.T) {
	apart := []string{
		"program p;begin skip end.",
		"program p;{}begin skip end.",
		"program p;//\nbegin skip end.",
		"program p;{x}begin skip end.",
		"program p;{x }begin skip end.",
		"program p;{ x}begin skip end.",
		"program p;{X}begin skip end.",
		"program p;{x\n}begin skip end.",
		"program p;{x\r\n}begin skip end.",
		"program p;{x\n\n}begin skip end.",
		"program p;{\xff}begin skip end.",
		"program p;{\ufffd}begin skip end.",
		"program p;//x\nbegin skip end.",
		"program p;// x\nbegin skip end.",
		"program p;//{x}\nbegin skip end.",
		"program p;{//x\n}begin skip end.",
		"program p;{x}{x}begin skip end.",
		"program p;{x}{y}begin skip end.",
		"program p;{y}{x}begin skip end.",
		"program p;{xy}begin skip end.",
		"program p{x};begin skip end.",
		"program{x}p;begin skip end.",
		"{x}program p;begin skip end.",
		"program p;begin{x}skip end.",
		"program p;begin skip{x}end.",
		"program p;begin skip end{x}.",
		"program p;begin skip end.{x}",
		"program p;begin skip end.//x",
	}
	for i, a := range apart {
		for k, b := range apart {
			holdsSame(t, a, b, answer{yes: i == k})
		}
	}
	// The blanks at the end of a line's comment are none of it; those of a block are.
	holdsSame(t, "program p;// x \t\r\nbegin skip end.", "program p;// x\nbegin skip end.", yes)
	holdsSame(t, "program p;begin skip end.// x  ", "program p;begin skip end.// x\n", yes)
	holdsSame(t, "program p;{ x \t\r}begin skip end.", "program p;{ x }begin skip end.", no)
}

// Whether a comment is behind: two that are alike in that say the same, and others do not.
func TestP18_2Behind(t *testing.T) {
	for _, rows := range [][][]string{
		{
			{"program p;{x}begin skip end.", "program p; {x} begin skip end.", "program p; \t\r{x}\n\nbegin skip end.", "program p\n\n; {x}begin skip end."},
			{"program p;\n{x}begin skip end.", "program p;\n\n\n{x}\nbegin skip end.", "program p; \r\n\t{x} begin skip end."},
		},
		// Nothing is ahead of the first one, whatever its Feeds are.
		{
			{"{x}program p;begin skip end.", " {x} program p;begin skip end.", "\n{x}program p;begin skip end.", "\n\n\n{x}\n\nprogram p;begin skip end."},
		},
		// A comment is ahead of the second one.
		{
			{"{x}{y}program p;begin skip end.", "\n {x} {y}\nprogram p;begin skip end."},
			{"{x}\n{y}program p;begin skip end.", "\n\n{x}\n\n\n{y}program p;begin skip end."},
		},
		{
			{"program p;{x}//y\nbegin skip end.", "program p; {x} //y \n\n begin skip end."},
			{"program p;{x}\n//y\nbegin skip end.", "program p; {x}\n\n//y\nbegin skip end."},
			{"program p;\n{x}//y\nbegin skip end."},
			{"program p;\n{x}\n//y\nbegin skip end.", "program p;\n\n{x}\n\n//y\n\nbegin skip end."},
		},
		// What has line feeds within ends behind them.
		{
			{"program p;{x\n}{y}begin skip end.", "program p; {x\n} {y} begin skip end."},
			{"program p;{x\n}\n{y}begin skip end.", "program p;{x\n}\n\n{y}begin skip end."},
			{"program p;\n{x\n}{y}begin skip end."},
		},
		// Behind a line's comment none is.
		{
			{"program p;//x\n{y}begin skip end.", "program p; //x\n\n{y}begin skip end.", "program p;//x\n\n\n{y}\n\nbegin skip end."},
			{"program p;\n//x\n{y}begin skip end."},
		},
		{
			{"program p;begin skip end.//x", "program p;begin skip end. //x\n"},
			{"program p;begin skip end.\n//x", "program p;begin skip end.\n\n//x \n\n"},
		},
	} {
		for i, row := range rows {
			for k, other := range rows {
				for _, a := range row {
					for _, b := range other {
						holdsSame(t, a, b, answer{yes: i == k})
					}
				}
			}
		}
	}
}

// Whether a token that is no comment stands behind another in its line does not matter, be a comment ahead of it or not.
func TestP18_2TokensOnLinesOfTheirOwn(t *testing.T) {
	for _, source := range []string{"program p;{x}begin skip end.", "program p;\n{x}begin skip end.", "program p;//x\nbegin skip end.", "{x}program p;begin skip end."} {
		lines := strings.ReplaceAll(strings.ReplaceAll(source, " ", "\n"), "}", "}\n\n")
		holdsSame(t, source, lines, yes)
	}
}

// agrees holds what Same tells of two sources against the second way.
func agrees(t *testing.T, a, b string) bool {
	t.Helper()
	want := sayings(a) == sayings(b)
	holdsSame(t, a, b, answer{yes: want})
	return want
}

// Each two gaps at each place of a program.
func TestP18_2AllGaps(t *testing.T) {
	t.Parallel()
	met := map[bool]int{}
	const source = "program p;begin skip end."
	for place := range len(tokens(source)) + 1 {
		for i, gap := range samples.Gaps() {
			for _, other := range samples.Gaps()[i:] {
				met[agrees(t, at(source, place, gap), at(source, place, other))]++
				met[agrees(t, at(source, place, gap), at(source, place/2, other))]++
			}
		}
	}
	if met[true] < 300 || met[false] < 3000 {
		t.Errorf("%v: too few of one sort", met)
	}
}

// Short texts behind a program, and in it, each against each.
func TestP18_2ShortTexts(t *testing.T) {
	t.Parallel()
	for _, source := range []string{"program p;begin skip end.", "program p;\nbegin{x}"} {
		var all []string
		for s := range samples.Texts([]string{" ", "\n", "{}", "{\n}", "//", "/", "\xc3", "skip end."}, 3) {
			if _, err := format.Layout(source + s); err == nil {
				all = append(all, source+s)
			}
		}
		if len(all) < 30 {
			t.Errorf("just %d of %s", len(all), source)
		}
		for i, a := range all {
			for _, b := range all[:i+1] {
				agrees(t, a, b)
			}
		}
	}
}

// Programs of any shape, with any gaps: other ones, one of them changed, one token changed.
func TestP18_2SomePrograms(t *testing.T) {
	t.Parallel()
	g := grammar.New()
	r := rand.New(rand.NewPCG(18, 2))
	words := g.Words()
	met := map[bool]int{}
	for size := range 150 {
		l := g.Some(r.IntN, size)
		source := samples.SomeGapped(r.IntN, l)
		met[agrees(t, source, samples.SomeGapped(r.IntN, l))]++
		met[agrees(t, source, samples.SomeGapped(r.IntN, g.Some(r.IntN, size)))]++
		met[agrees(t, source, strings.ReplaceAll(source, "\n", "\r\n"))]++
		met[agrees(t, source, strings.ReplaceAll(source, "\n\n", "\n"))]++
		all := tokens(source)
		for range 3 {
			place := r.IntN(len(all))
			changed := slices.Replace(slices.Clone(all), place, place+1, words[r.IntN(len(words))])
			other := samples.Gapped(changed, func(int) string { return "\n" })
			if _, err := format.Layout(other); err == nil {
				met[agrees(t, source, other)]++
			}
		}
	}
	if met[true] < 100 || met[false] < 200 {
		t.Errorf("%v: too few of one sort", met)
	}
}

// Sources as long as may be, that are apart at their end alone or at their beginning.
func TestP18_2Long(t *testing.T) {
	t.Parallel()
	first := "program p;begin " + strings.Repeat("a;", 4000) + "a end."
	longest := first + strings.Repeat(" ", api.MaxText-len(first)-3)
	holdsSame(t, first, longest+"   ", yes)
	holdsSame(t, first, longest+"{x}", no)
	holdsSame(t, first+"{x}", longest+"{x}", yes)
	holdsSame(t, first+"\n{x}", longest+"{x}", no)
	holdsSame(t, first+"{y}", longest+"{x}", no)
	holdsSame(t, first, "program q"+longest[9:], no)
	holdsSame(t, first, strings.Replace(longest, "a;a;a", "a;a;b", 1), no)
	if got := same(first, longest+"    "); got != refused("error 2 at 0 0:0") {
		t.Error(got)
	}
}
