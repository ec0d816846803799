package notes_test

import (
	"fmt"
	"math/rand/v2"
	"slices"
	"strings"
	"testing"

	"colophon/api"
	"colophon/notes"
	"colophon/samples"
)

func TestP19_1Examples(t *testing.T) {
	holdsOf(t, " a {x} { y\n} // z \nb", "1 behind {x}; 1 behind { y\n}; 1 behind // z")
	holdsOf(t, "// a\nb\n{c}", "0 alone // a; 1 alone {c}")
	holdsOf(t, "a {b", "ErrScanOpen at 2 1:3")
	holdsOf(t, "program p; // q\nbegin {x} x:= // one\n\n\n1; {two} skip\n// three\nend.\n",
		"3 behind // q; 4 behind {x}; 6 behind // one; 8 behind {two}; 9 alone // three")
}

// The struct itself, field by field.
func TestP19_1Fields(t *testing.T) {
	l, err := notes.Of("{a}b{c}d\n//e")
	want := []api.Remark{{Ahead: 0, Text: "{a}", Behind: false}, {Ahead: 1, Text: "{c}", Behind: true}, {Ahead: 2, Text: "//e", Behind: false}}
	if err != nil || !slices.Equal(l, want) {
		t.Errorf("%v, %v, not %v", l, err, want)
	}
}

// A source without comments has none, be there tokens or not.
func TestP19_1None(t *testing.T) {
	for _, source := range []string{"", " ", "\n\n", "\t\r\n", "a", "program p;begin skip end.", "\"{a}\" '{' '}' '/' / / \"//\" /", "/", "a / b"} {
		l, err := notes.Of(source)
		if err != nil || len(l) != 0 {
			t.Errorf("Of(%q): %v, %v", source, l, err)
		}
	}
}

// What is wrong is told as a Fault with its place, and no comment beside it, those ahead of it neither.
func TestP19_1Errors(t *testing.T) {
	for _, c := range wrongs() {
		holdsOf(t, c.source, c.want)
		if l, err := notes.Of(c.source); len(l) != 0 || err == nil {
			t.Errorf("Of(%s): %v, %v", samples.Short(c.source), l, err)
		}
	}
}

// The tokens need not be a program's: only scan's errors are told.
func TestP19_1NoProgram(t *testing.T) {
	for source, want := range map[string]string{
		"{a}":                             "0 alone {a}",
		"; ; {a}":                         "2 behind {a}",
		"end begin {a} program":           "2 behind {a}",
		"( ( [ //a":                       "3 behind //a",
		"program p;begin skip end.x{a}":   "8 behind {a}",
		strings.Repeat("(", 2000) + "{a}": "2000 behind {a}",
	} {
		holdsOf(t, source, want)
	}
}

// A token counts one, whatever its kind and its length are; comments, blanks and line ends count nothing.
func TestP19_1Ahead(t *testing.T) {
	for source, want := range map[string]int{
		"":                                0,
		" \n\t\r ":                        0,
		"a":                               1,
		"abc":                             1,
		"a b":                             2,
		"\u00e9t\u00e9 \u65e5":            2,
		"begin":                           1,
		"12":                              1,
		"12ab":                            2,
		"\"\"":                            1,
		"\"a b {c} //\xff\"":              1,
		"'{'":                             1,
		"'\u65e5'":                        1,
		":=":                              1,
		": =":                             2,
		"..":                              1,
		"...":                             2,
		"<=>=":                            2,
		"/ /":                             2,
		"a:=b[1..2];":                     9,
		"//x\n":                           0,
		"a//x\n":                          1,
		"{x}{y}//z\n":                     0,
		"{a b c}a{d\ne}b//f g\n":          2,
		strings.Repeat("a", api.MaxTok):   1,
		strings.Repeat("a;", 300):         600,
		strings.Repeat("{x}a//y\n\n", 70): 70,
	} {
		for _, note := range []string{"{n}", "//n"} {
			l, err := notes.Of(source + " " + note + "\nb c")
			if err != nil || len(l) == 0 {
				t.Fatalf("Of(%s): %v, %v", samples.Short(source+note), l, err)
			}
			if last := l[len(l)-1]; last.Ahead != want || last.Text != note {
				t.Errorf("Of(%s): %v, not %d ahead", samples.Short(source+note), last, want)
			}
		}
	}
}

// All of a comment's bytes, as they are; of a line's those without the blanks at its end.
func TestP19_1Text(t *testing.T) {
	for source, want := range map[string]string{
		"a//":                              "1 behind //",
		"a///":                             "1 behind ///",
		"a// \t\r\nb":                      "1 behind //",
		"a// b \t c \t\r \nd":              "1 behind // b \t c",
		"a//b \r\r":                        "1 behind //b",
		"a//b\rc\nd":                       "1 behind //b\rc",
		"a//b{c\nd//e":                     "1 behind //b{c; 2 behind //e",
		"a//b\x0b\nc":                      "1 behind //b\x0b",
		"a//\u00a0\nc":                     "1 behind //\u00a0",
		"a//\x00\x7f\x01\nb":               "1 behind //\x00\x7f\x01",
		"a//\xff\xc3\nb":                   "1 behind //\xff\xc3",
		"a//\u65e5\u00e9\U00010400":        "1 behind //\u65e5\u00e9\U00010400",
		"a//\"\nb":                         "1 behind //\"",
		"a//'{}\nb":                        "1 behind //'{}",
		"a//b//c":                          "1 behind //b//c",
		"a{}":                              "1 behind {}",
		"a{ b \t\r}":                       "1 behind { b \t\r}",
		"a{\n}":                            "1 behind {\n}",
		"a{\r\n b\n\n}c":                   "1 behind {\r\n b\n\n}",
		"a{{}":                             "1 behind {{}",
		"a{//}b":                           "1 behind {//}",
		"a{//\n//}b":                       "1 behind {//\n//}",
		"a{\"}b":                           "1 behind {\"}",
		"a{'\n}b":                          "1 behind {'\n}",
		"a{\x00\x7f\x01}":                  "1 behind {\x00\x7f\x01}",
		"a{\xff\xe6\x97}":                  "1 behind {\xff\xe6\x97}",
		"a{\u65e5}":                        "1 behind {\u65e5}",
		"{//}//{":                          "0 alone {//}; 0 behind //{",
		"\"{\"{a}\"}\"":                    "1 behind {a}",
		"\"//\"//\"":                       "1 behind //\"",
		"'{'{'}'}'":                        "1 behind {'}",
		"'\"'{a}'\"'//b":                   "1 behind {a}; 2 behind //b",
		"a/ //b":                           "2 behind //b",
		"a/{b}/c":                          "2 behind {b}",
		"a//" + strings.Repeat("b", 65533): "1 behind //" + strings.Repeat("b", 65533),
		"a{" + strings.Repeat("\n", 65533) + "}//b": "1 behind {" + strings.Repeat("\n", 65533) + "}; 1 behind //b",
	} {
		holdsOf(t, source, want)
		asPlain(t, source)
	}
}

// Whether a comment is behind a token, or a comment, in its line.
func TestP19_1Behind(t *testing.T) {
	for source, want := range map[string]string{
		// Nothing is ahead of the first token, be there line ends or not.
		"{x}":          "0 alone {x}",
		" \t\r{x}":     "0 alone {x}",
		"\n{x}":        "0 alone {x}",
		"\n\n \n//x":   "0 alone //x",
		"//x":          "0 alone //x",
		"{x}a":         "0 alone {x}",
		"{\n}a":        "0 alone {\n}",
		"//x\na{y}":    "0 alone //x; 1 behind {y}",
		"a{x}":         "1 behind {x}",
		"a \t\r{x}":    "1 behind {x}",
		"a\n{x}":       "1 alone {x}",
		"a \r\n\t{x}":  "1 alone {x}",
		"a\n\n{x}b":    "1 alone {x}",
		"a//x":         "1 behind //x",
		"a\n//x":       "1 alone //x",
		"a\n\n\n//x\n": "1 alone //x",
		// One behind a comment: that is a token ahead, the first one too.
		"{x}{y}":             "0 alone {x}; 0 behind {y}",
		"{x} {y}\n{z}":       "0 alone {x}; 0 behind {y}; 0 alone {z}",
		"{x}//y":             "0 alone {x}; 0 behind //y",
		"\n{x}//y\n//z":      "0 alone {x}; 0 behind //y; 0 alone //z",
		"{x}\n{y}":           "0 alone {x}; 0 alone {y}",
		"a{x}{y}":            "1 behind {x}; 1 behind {y}",
		"a\n{x}{y}//z":       "1 alone {x}; 1 behind {y}; 1 behind //z",
		"a{x}\n{y}\n\n//z":   "1 behind {x}; 1 alone {y}; 1 alone //z",
		"a//x\n{y}":          "1 behind //x; 1 alone {y}",
		"//x\n//y\n\n//z":    "0 alone //x; 0 alone //y; 0 alone //z",
		"a//x \n//y":         "1 behind //x; 1 alone //y",
		"a;{x} b := {y}c{z}": "2 behind {x}; 4 behind {y}; 5 behind {z}",
		// What has line feeds within ends behind them.
		"{x\n}{y}":             "0 alone {x\n}; 0 behind {y}",
		"{x\n\n} {y}":          "0 alone {x\n\n}; 0 behind {y}",
		"a{x\n}//y":            "1 behind {x\n}; 1 behind //y",
		"a\n{x\n}{y\n\n}{z}":   "1 alone {x\n}; 1 behind {y\n\n}; 1 behind {z}",
		"a{x\n}\n{y}":          "1 behind {x\n}; 1 alone {y}",
		"a{x\n}b{y}":           "1 behind {x\n}; 2 behind {y}",
		"a{x\n}\nb{y}":         "1 behind {x\n}; 2 behind {y}",
		"{x\n}\n\n{y\n}\n//z ": "0 alone {x\n}; 0 alone {y\n}; 0 alone //z",
		// It hangs on what is right ahead of it alone, and on nothing that comes behind it.
		"a b\nc {x}\nd":  "3 behind {x}",
		"a b\n\n{x} c d": "2 alone {x}",
		"a\n{x}\nb":      "1 alone {x}",
		"\"\"{x}":        "1 behind {x}",
	} {
		holdsOf(t, source, want)
	}
}

// Each gap at each place of programs that have all forms: as many comments as the gap has, with that many tokens ahead.
func TestP19_1AtEveryPlace(t *testing.T) {
	t.Parallel()
	for _, source := range samples.Programs() {
		l := tokens(source)
		for place := range len(l) + 1 {
			for _, gap := range samples.Gaps() {
				with := samples.Gapped(l, func(i int) string {
					if i == place {
						return gap
					}
					return ""
				})
				asPlain(t, with)
				all, err := notes.Of(with)
				if want := len(tokens(gap)); err != nil || len(all) != want {
					t.Fatalf("Of(%q): %v, %v, not %d", with, all, err, want)
				}
				for _, r := range all {
					if r.Ahead != place {
						t.Fatalf("Of(%q): %v, not %d ahead", with, all, place)
					}
				}
			}
		}
	}
}

func TestP19_1AllShortSourcesAsThePlainWay(t *testing.T) {
	shortSources(t, samples.SourceParts(), 3, asPlain)
}

func TestP19_1SomeLongerSourcesAsThePlainWay(t *testing.T) {
	shortSources(t, noteParts(), 5, asPlain)
}

func TestP19_1LongSourcesAsThePlainWay(t *testing.T) {
	t.Parallel()
	r := rand.New(rand.NewPCG(19, 1))
	parts := samples.SourceParts()
	for range 200 {
		s := samples.SomeSource(r.IntN, 1+r.IntN(300))
		asPlain(t, s)
		at := r.IntN(len(s))
		asPlain(t, s[:at])
		asPlain(t, s[:at]+s[at+r.IntN(len(s)-at):])
		asPlain(t, s[:at]+parts[r.IntN(len(parts))]+s[at:])
	}
}

func TestP19_1AnyBytes(t *testing.T) {
	t.Parallel()
	r := rand.New(rand.NewPCG(19, 2))
	for range 20000 {
		b := make([]byte, r.IntN(12))
		for i := range b {
			b[i] = byte(r.IntN(256))
		}
		asPlain(t, string(b))
		asPlain(t, "{"+string(b)+"}//"+string(b))
		asPlain(t, "a//"+string(b)+"\n{"+string(b)+"}")
	}
}

// Longer than a source that is formatted whole, and gone through just once: a way that counts from the front for each
// comment would not end here.
func TestP19_1AGreatSource(t *testing.T) {
	t.Parallel()
	const times = 1 << 18
	l, err := notes.Of(strings.Repeat("a{x}\n//y\n", times))
	if err != nil || len(l) != 2*times {
		t.Fatal(len(l), err)
	}
	for i, r := range l {
		want := api.Remark{Ahead: i/2 + 1, Text: "{x}", Behind: true}
		if i%2 == 1 {
			want = api.Remark{Ahead: i/2 + 1, Text: "//y"}
		}
		if r != want {
			t.Fatal(fmt.Sprint(i, ": ", remarkWord(r), ", not ", remarkWord(want)))
		}
	}
}
