package format_test

import (
	"math"
	"strings"
	"testing"

	"colophon/api"
	"colophon/format"
	"colophon/plain"
	"colophon/samples"
)

func TestP16_2Examples(t *testing.T) {
	for _, x := range samples.Examples() {
		if got := formatted(x.Width, x.Source); !got.same(answer{text: x.Want}) {
			t.Errorf("%q, %d:\n%s %s\nnot\n%s", x.Source, x.Width, got.wrong, got.text, x.Want)
		}
	}
	for _, c := range []wrong{
		{"", "ErrParseEnd at 0 1:1"}, {"; ?", "ErrParseTok at 0 1:1"}, {"program p;begin skip ?", "ErrScanByte at 21 1:22"}, {"program p;begin skip end", "ErrParseEnd at 24 1:25"},
	} {
		refuses(t, c)
	}
}

// Comments and empty lines, told by hand.
func TestP16_2Comments(t *testing.T) {
	for source, want := range map[string]string{
		"program p;begin f{c}(a);\n\n{d}\n\nskip end.":        samples.Lines("program p;", "begin", "  f {c} (a);", "", "  {d}", "", "  skip", "end."),
		"\n\n{a}{b}\n\n\nprogram p;begin\n\nskip end.\n\n{c}": samples.Lines("{a} {b}", "program p;", "begin", "  skip", "end.", "", "{c}"),
		"program p;begin x:=a//b \t\n+{c\n }d end.":           samples.Lines("program p;", "begin", "  x :=", "    a //b", "    + {c", " } d", "end."),
	} {
		if got := formatted(72, source); !got.same(answer{text: want}) {
			t.Errorf("%q:\n%s %s\nnot\n%s", source, got.wrong, got.text, want)
		}
	}
}

// A width that is none is told ahead of all that is wrong with the source.
func TestP16_2Widths(t *testing.T) {
	long := strings.Repeat(" ", api.MaxText+1)
	for _, width := range []int{0, 4097, -1, 4098, 1 << 16, 1<<32 + 1, math.MinInt, math.MaxInt} {
		for _, source := range []string{"program p;begin skip end.", "", ";", "?", "program p;begin skip end", long} {
			if got := formatted(width, source); !got.same(answer{wrong: "error 1 at 0 0:0"}) {
				t.Errorf("%s at %d: %s", samples.Short(source), width, got)
			}
		}
	}
	for _, width := range []int{1, 2, 72, 4095, 4096} {
		if got := formatted(width, "program p;begin skip end."); !got.same(answer{text: "program p;\nbegin\n  skip\nend.\n"}) {
			t.Errorf("at %d: %s", width, got)
		}
		if got := formatted(width, long); !got.same(answer{wrong: "error 2 at 0 0:0"}) {
			t.Errorf("at %d: %s", width, got)
		}
	}
}

// The width is that of the lines: what has as many columns fits, and one more does not.
func TestP16_2WhatFits(t *testing.T) {
	for _, width := range []int{10, 72, 4095, 4096} {
		for more := range 3 {
			name := strings.Repeat("b", width-len("  a := ")-1+more)
			want := samples.Lines("program p;", "begin", "  a := "+name, "end.")
			if more == 2 {
				want = samples.Lines("program p;", "begin", "  a :=", "    "+name, "end.")
			}
			if got := formatted(width, "program p;begin a:="+name+" end."); !got.same(answer{text: want}) {
				t.Errorf("%d, %d letters: %s, not %s", width, len(name), got, samples.Short(want))
			}
		}
	}
	// Columns, not bytes or characters: the text has 8 of the line's 15.
	const source = "program p;begin a:=\"\u65e5\u672c\u8a9e\" end."
	if got := formatted(15, source); got.text != samples.Lines("program p;", "begin", "  a := \"\u65e5\u672c\u8a9e\"", "end.") {
		t.Error(got)
	}
	if got := formatted(14, source); got.text != samples.Lines("program p;", "begin", "  a :=", "    \"\u65e5\u672c\u8a9e\"", "end.") {
		t.Error(got)
	}
}

// What is told is the layout, printed: the plain way, at every small width.
func TestP16_2TheLayoutPrinted(t *testing.T) {
	for _, source := range samples.Programs() {
		for _, gap := range []string{"", "\n\n", "{c}", "\n//\u65e5\n"} {
			source := samples.Gapped(tokens(source), func(int) string { return gap })
			l, err := format.Layout(source)
			if err != nil {
				t.Fatal(err)
			}
			for width := 1; width <= 60; width++ {
				if got, want := formatted(width, source), plain.Print(width, l); !got.same(answer{text: want}) {
					t.Fatalf("%q, %d:\n%s %s\nnot\n%s", source, width, got.wrong, got.text, want)
				}
			}
		}
	}
}
