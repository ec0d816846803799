package check_test

import (
	"math"
	"math/rand/v2"
	"strings"
	"testing"

	"colophon/api"
	"colophon/driver"
	"colophon/grammar"
	"colophon/samples"
)

func TestP18_1Examples(t *testing.T) {
	holdsIs(t, 72, formed, yes)
	holdsIs(t, 72, formed+"\n", no)
	holdsIs(t, 0, formed, refused("error 1 at 0 0:0"))
	for _, x := range samples.Examples() {
		holdsIs(t, x.Width, x.Source, no)
		holdsIs(t, x.Width, x.Want, yes)
	}
}

// Blanks, line ends and empty lines that Format would not write, or would write elsewhere.
func TestP18_1EveryByteCounts(t *testing.T) {
	for source, want := range map[string]answer{
		"program p;\nbegin\n  skip\nend.\n":                            yes,
		"program p;\nbegin\n  skip\nend.":                              no,
		"\nprogram p;\nbegin\n  skip\nend.\n":                          no,
		" program p;\nbegin\n  skip\nend.\n":                           no,
		"program p;\nbegin\n  skip\nend. \n":                           no,
		"program p;\nbegin\n  skip\nend.\n ":                           no,
		"program p;\r\nbegin\r\n  skip\r\nend.\r\n":                    no,
		"program p;\nbegin\n\tskip\nend.\n":                            no,
		"program p;\nbegin\n   skip\nend.\n":                           no,
		"program p;\nbegin\n  skip \nend.\n":                           no,
		"program p; \nbegin\n  skip\nend.\n":                           no,
		"program  p;\nbegin\n  skip\nend.\n":                           no,
		"program p ;\nbegin\n  skip\nend.\n":                           no,
		"program p;\nbegin skip\nend.\n":                               no,
		"program p;\n\nbegin\n  skip\nend.\n":                          no,
		"program p;\nbegin\n\n  skip\nend.\n":                          no,
		"program p;\nbegin\n  skip;\n\n  skip\nend.\n":                 yes,
		"program p;\nbegin\n  skip;\n\n\n  skip\nend.\n":               no,
		"program p;\nbegin\n  skip;\n  \n  skip\nend.\n":               no,
		"{a}\nprogram p; // b\nbegin {c\n d}\n  // e\n  skip\nend.\n":  yes,
		"{a} program p; // b\nbegin {c\n d}\n  // e\n  skip\nend.\n":   no,
		"{a}\nprogram p; // b \nbegin {c\n d}\n  // e\n  skip\nend.\n": no,
		"{a}\nprogram p;  // b\nbegin {c\n d}\n  // e\n  skip\nend.\n": no,
		"{a}\nprogram p; // b\nbegin {c\n d}\n// e\n  skip\nend.\n":    no,
		"program p;\nbegin\n  a := \"\xff\u65e5\" // \xc3\nend.\n":     yes,
		"program p;\nbegin\n  a := \"\xff\u65e5\"// \xc3\nend.\n":      no,
		"program p;\nbegin\n  a :=\n    b\nend.\n":                     no,
	} {
		holdsIs(t, 72, source, want)
	}
}

// A source is formatted at those widths alone at which it would be laid so. (What hangs on a Break within the brackets has
// not the one that closes them.)
func TestP18_1TheWidth(t *testing.T) {
	const short, broken = "program p;\nbegin\n  y := f(a, b)\nend.\n", "program p;\nbegin\n  y :=\n    f(a, b)\nend.\n"
	const shorter, other = "program p;\nbegin\n  y :=\n    f(a,\n      b)\nend.\n", "program p;\nbegin\n  y :=\n    f(\n      a,\n      b)\nend.\n"
	for width := 1; width <= api.MaxWidth; width++ {
		for source, want := range map[string]bool{short: width >= 14, broken: width < 14 && width >= 10, shorter: width < 10 && width >= 8, other: width < 8} {
			if got := is(width, source); got != (answer{yes: want}) {
				t.Fatalf("%q at %d: %s", source, width, got)
			}
		}
	}
}

// A width that is none is told ahead of all that is wrong with the source.
func TestP18_1Widths(t *testing.T) {
	for _, width := range []int{0, 4097, -1, 4098, 1 << 16, 1<<32 + 72, math.MinInt, math.MaxInt} {
		holdsIs(t, width, formed, refused("error 1 at 0 0:0"))
		holdsIs(t, width, formed+" ", refused("error 1 at 0 0:0"))
		for _, c := range samples.Wrongs() {
			holdsIs(t, width, c.Source, refused("error 1 at 0 0:0"))
		}
	}
	for _, width := range []int{1, 2, 4095, 4096} {
		holdsIs(t, width, formed, yes)
		holdsIs(t, width, formed+" ", no)
	}
}

// What is wrong with a source, and where; also of the empty one, which is all that Format tells beside an error.
func TestP18_1Errors(t *testing.T) {
	for _, c := range samples.Wrongs() {
		for _, width := range []int{1, 72, 4096} {
			holdsIs(t, width, c.Source, refused(c.Want))
		}
	}
}

// driven is what a driver says of a source, and of what is wrong with it, chunk by chunk: a second way to it.
func driven(width int, source string) answer {
	d, err := driver.New(api.Options{Width: width, Check: true})
	if err != nil {
		return refused(samples.FaultWord(err))
	}
	for len(source) > 0 {
		size := min(len(source), 50)
		if _, err := d.Feed(source[:size]); err != nil {
			return refused(samples.FaultWord(err))
		}
		source = source[size:]
	}
	_, same, err := d.Close()
	return answer{same, samples.FaultWord(err)}
}

// follows holds what Is tells of a source against the driver.
func follows(t *testing.T, width int, source string) answer {
	t.Helper()
	got := is(width, source)
	if want := driven(width, source); got != want {
		t.Fatalf("%s at %d: %s, and a driver %s", samples.Short(source), width, got, want)
	}
	return got
}

// Sources that are formatted, but for one byte that is gone, or a part more.
func TestP18_1OnePartChanged(t *testing.T) {
	t.Parallel()
	met := map[bool]int{}
	for _, x := range samples.Examples() {
		source := x.Want
		for at := range len(source) {
			met[follows(t, x.Width, source[:at]+source[at+1:]).yes]++
			for _, part := range []string{" ", "\n", "\t", "\r", "a", "1", ";", "?", "\xff", "{}", "//"} {
				met[follows(t, x.Width, source[:at]+part+source[at:]).yes]++
			}
			if follows(t, x.Width, source[:at]).yes {
				t.Errorf("%q", source[:at])
			}
		}
	}
	if met[true] < 100 || met[false] < 1000 {
		t.Errorf("%v: too few of one sort", met)
	}
}

// Programs of any shape, with any gaps, at any width, and formatted at that one or at another.
func TestP18_1SomePrograms(t *testing.T) {
	t.Parallel()
	g := grammar.New()
	r := rand.New(rand.NewPCG(18, 1))
	met := map[bool]int{}
	for size := range 130 {
		source := samples.SomeGapped(r.IntN, g.Some(r.IntN, size))
		for range 3 {
			width := 1 + r.IntN(80)
			met[follows(t, width, source).yes]++
			met[follows(t, 1+r.IntN(80), told(t, width, source)).yes]++
			met[follows(t, width, told(t, width, source)).yes]++
			follows(t, width, source[:r.IntN(len(source))])
		}
	}
	if met[true] < 400 || met[false] < 400 {
		t.Errorf("%v: too few of one sort", met)
	}
}

// A source as long as may be, formatted or not, and one that is longer.
func TestP18_1Long(t *testing.T) {
	t.Parallel()
	const first, last = "program p;\nbegin\n  skip\nend.\n", "\n"
	source := first + strings.Repeat("//abc\n", (api.MaxText-len(first))/6)
	source += "//" + strings.Repeat("d", api.MaxText-len(source)-3) + "\n"
	if len(source) != api.MaxText {
		t.Fatal(len(source))
	}
	holdsIs(t, 72, source, yes)
	holdsIs(t, 72, source[:len(source)-1], no)
	holdsIs(t, 72, source[:len(source)-1]+" ", no)
	holdsIs(t, 72, source[:len(source)-2]+"\xff\n", yes)
	holdsIs(t, 72, source+last, refused("error 2 at 0 0:0"))
}
