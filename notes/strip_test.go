package notes_test

import (
	"strings"
	"testing"

	"colophon/api"
	"colophon/notes"
	"colophon/samples"
)

func TestP19_2Examples(t *testing.T) {
	holdsStrip(t, "a{b}c// d\ne", "a c\ne")
	holdsStrip(t, "program p; // q\nbegin {x} x:= // one\n\n\n1; {two} skip\n// three\nend.\n", "program p; \nbegin   x:= \n\n\n1;   skip\n\nend.\n")
}

// What is wrong is told as a Fault with its place, and no text beside it.
func TestP19_2Errors(t *testing.T) {
	for _, c := range wrongs() {
		if got := stripped(c.source); got != (answer{wrong: c.want}) {
			t.Errorf("Strip(%s): %s, not %s", samples.Short(c.source), got, c.want)
		}
	}
}

// The tokens need not be a program's: only scan's errors are told.
func TestP19_2NoProgram(t *testing.T) {
	for source, want := range map[string]string{
		"{a}":                        " ",
		"//a":                        "",
		"; ; {a}":                    "; ;  ",
		"end{a}begin//b":             "end begin",
		"program p;begin{a}end":      "program p;begin end",
		strings.Repeat("({a}", 2000): strings.Repeat("( ", 2000),
	} {
		holdsStrip(t, source, want)
	}
}

// A source without comments is what it was.
func TestP19_2None(t *testing.T) {
	for _, source := range append(samples.Programs(),
		"", " ", "\n\n", " \t\r\n ", "a", "a  \n\n  b \t", "\"{a}\"", "'{'", "'}'", "\"//\"", "'/'", "/ /", "a/ /b", "\"\xff\"'\xc3'", "\r\n\r\n",
	) {
		holdsStrip(t, source, source)
	}
}

// One blank for a block, whatever its bytes are; nothing for a line; all that stands around them stays.
func TestP19_2InTheirPlace(t *testing.T) {
	for source, want := range map[string]string{
		// Blocks.
		"{}":                " ",
		"{x}":               " ",
		"{x\n\ny}":          " ",
		"{\n}a":             " a",
		"a{ \t }":           "a ",
		"a{x}b":             "a b",
		"a {x} b":           "a   b",
		"a\t{x}\r\nb":       "a\t \r\nb",
		"a\n{x}\nb":         "a\n \nb",
		"a\n\n  {x}  \n\nb": "a\n\n     \n\nb",
		"{x}{y}":            "  ",
		"{x}{y}{z}":         "   ",
		"{x} {y}":           "   ",
		"a{{}b":             "a b",
		"a{//}b":            "a b",
		"a{\xff\u65e5}b":    "a b",
		"1{x}2":             "1 2",
		":{x}=":             ": =",
		".{x}.":             ". .",
		"/{x}/":             "/ /",
		"be{x}gin":          "be gin",
		"\"{\"{x}\"}\"":     "\"{\" \"}\"",
		"'{'{x}'}'":         "'{' '}'",
		"{" + strings.Repeat("\n", api.MaxTok-2) + "}a": " a",
		// Lines. Their blanks at the end are none of them.
		"//":                "",
		"//x":               "",
		"//x\n":             "\n",
		"// x  \n":          "  \n",
		"//x \t\r\ny":       " \t\r\ny",
		"//x \t y \t":       " \t",
		"//  ":              "  ",
		"//\r\n":            "\r\n",
		"a//x":              "a",
		"a //x":             "a ",
		"a//x\nb":           "a\nb",
		"a \t//x\r\n\r\n b": "a \t\r\n\r\n b",
		"a\n//x\n\n//y\nb":  "a\n\n\n\nb",
		"  //x\n":           "  \n",
		"///":               "",
		"a////b":            "a",
		"a//{x\nb":          "a\nb",
		"a//{x}\nb":         "a\nb",
		"a//\"\nb":          "a\nb",
		"a//\xff\xc3 \nb":   "a \nb",
		"a/ //x":            "a/ ",
		"\"//\"//\"":        "\"//\"",
		"a//" + strings.Repeat("b", api.MaxTok-2) + "\nc": "a\nc",
		"a//" + strings.Repeat(" ", api.MaxTok-2) + "\nc": "a" + strings.Repeat(" ", api.MaxTok-2) + "\nc",
		// Both.
		"{x}//y":        " ",
		"{x}//y\n{z}":   " \n ",
		"a{x}//y\n//z ": "a \n ",
		"{//\n}//{":     " ",
		"a{x\n}//y\nb":  "a \nb",
	} {
		holdsStrip(t, source, want)
		asPlain(t, source)
	}
}

// Whatever byte stands in a comment, nothing of it is left, and nothing around it is gone.
func TestP19_2EachByte(t *testing.T) {
	for b := range 256 {
		c := string([]byte{byte(b)})
		if c != "}" {
			holdsStrip(t, "a\t{"+c+"\xe6"+c+"}\r\n\"\xc3\"{"+c+"}", "a\t \r\n\"\xc3\" ")
		}
		if c != "\n" {
			holdsStrip(t, "\"\xc3\"//"+c+"x\n b", "\"\xc3\"\n b")
		}
	}
}

// Longer than a source that is formatted whole, and gone through just once.
func TestP19_2AGreatSource(t *testing.T) {
	t.Parallel()
	const times = 1 << 18
	text, err := notes.Strip(strings.Repeat("a{x} \n//y \n", times))
	if err != nil || text != strings.Repeat("a  \n \n", times) {
		t.Fatal(len(text), err)
	}
}
