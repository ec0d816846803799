package lex_test

import (
	"fmt"
	"strings"
	"testing"

	"colophon/lex"
	"colophon/place"
	"colophon/samples"
)

func TestP11_2Examples(t *testing.T) {
	plays(t, ` [2] | Name "abc" 0 1:1 0 [1] |  [2] | Sign ":=" 4 1:5 0`, "ab", "c :", "=")
	plays(t, ` [2] | Name "aé" 0 1:1 0 [1] | Sign ";" 3 1:3 0`, "a\xc3", "\xa9;")
	plays(t, ` [2] | Name "a" 0 1:1 0; ErrScanByte at 1 1:2`, "a\xc3")
	plays(t, `Name "x" 0 1:1 0 [2] | ErrScanOpen at 2 1:3 | ErrScanOpen at 2 1:3 | ErrScanOpen at 2 1:3`, "x \"a", "\n", "y")
	plays(t, `Block "{a}" 0 1:1 0 |  [4] | Line "// b" 3 1:4 0 | `, "{a}", "// b", "\n")
	plays(t, ` |  | `, "", " \t\r")
}

func TestP11_1NewMakesOneToWhichNothingHasCome(t *testing.T) {
	if l := lex.New(); l == nil || l.Held() != 0 {
		t.Fatal("New() is nil, or holds something")
	}
	plays(t, "")
	one, two := lex.New(), lex.New()
	fed(one, "\n\n? ")
	if got := fed(two, "a "); one == two || got.String() != `Name "a" 0 1:1 0` {
		t.Errorf("behind another one's error a new one tells %s", got)
	}
}

// The sources of the document's examples of the whole, in chunks of each size.
func TestP11_5ExamplesOfTheWhole(t *testing.T) {
	for _, s := range []string{
		"program p;begin x:=1;y:=f(a,b)end.\n",
		"program p; // q\nbegin {x} x:= // one\n\n\n1; {two} skip\n// three\nend.\n",
		"a:=\"\u65e5\u672c\" // \u00e9\n",
		"program p;\nbegin \u65e5 := \"\u00e9\" ? end.\n",
		"program p;\n\n\nvar a:array[1..n]of record x,y:int;z:t end;\nproc f(a:t;b:u):v;begin return a end;\n\nbegin\n\nskip;\n\n\nif not a or b=-1 then f() elif c then g[1,2].h else repeat skip until d end end.\n",
		"\"a\n", "begin ''\n", "{\n", "?\n",
	} {
		c := courseOf(s)
		for size := 1; size <= len(s); size++ {
			c.cut(t, every(size, s)...)
		}
	}
}

// Chunks of nothing, of blanks and of line ends tell nothing by themselves, and are not held; what they end is sure.
func TestP11_2ChunksOfNothingAndOfBlanks(t *testing.T) {
	plays(t, ` |  |  |  | `, "", "", "", "")
	for _, s := range []string{" ", "\t", "\r", "\n", "\r\n", "  ", "\n\n\n", " \t\r\n"} {
		feeds := strings.Count(s, "\n")
		plays(t, ` | `, s)
		plays(t, ` |  |  | `, s, "", s)
		plays(t, fmt.Sprintf(` |  [1] | Name "a" %s %d |  | `, endOf(s), feeds), s, "a", s, s)
		plays(t, fmt.Sprintf(` [1] |  [1] | Name "a" 0 1:1 0 |  [1] | Sign ";" %s %d`, endOf("a"+s), feeds), "a", "", s, ";")
		plays(t, fmt.Sprintf(` | ErrScanByte at %s | ErrScanByte at %[1]s`, endOf(s)), s, "?")
	}
	long := strings.Repeat(" \n", 100000)
	l := lex.New()
	for _, s := range []string{long, long} {
		if got := fed(l, s); !got.same(answer{}) {
			t.Fatalf("200000 blanks and line ends: %s", got)
		}
	}
	if got := fed(l, " x;"); got.String() != `Name "x" 400001 200001:2 200000 [1]` {
		t.Error(got)
	}
}

// endOf is the place behind a source, in words.
func endOf(s string) string { return samples.PlaceWord(place.Advance(place.Start(), s)) }

// A token of each kind, and whether it is sure with its last byte.
var one = []struct {
	kind, text string
	sure       bool
}{
	{"Name", "ab", false}, {"Name", "\u65e5\u00e9", false}, {"Key", "if", false}, {"Number", "12", false}, {"Sign", "<=", false},
	{"Sign", ";", false}, {"Line", "// z", false}, {"Text", "\"x\u00e9\"", true}, {"Text", "\"\"", true}, {"Char", "'\u65e5'", true},
	{"Char", "'\"'", true}, {"Block", "{b\nc}", true}, {"Block", "{}", true},
}

// Each kind at the end of a chunk; the next one parts it from what comes.
func TestP11_2EachKindAheadOfABlankOrALineEnd(t *testing.T) {
	for _, k := range one {
		word, size := k.kind+" "+k.text, fmt.Sprintf(" [%d]", len(k.text))
		more := fmt.Sprintf(" [%d]", len(k.text)+1)
		for _, blank := range []string{" ", "\t", "\r"} {
			switch {
			case k.sure:
				hasKinds(t, word+" |  | ", k.text, blank)
				hasKinds(t, word+" | ", k.text+blank)
			case k.kind == "Line": // a blank may be its last byte but one
				hasKinds(t, size+" | "+more+" | "+word, k.text, blank)
				hasKinds(t, more+" | "+word+" | ", k.text+blank, "\n")
			default:
				hasKinds(t, size+" | "+word+" | ", k.text, blank)
				hasKinds(t, word+" | ", k.text+blank)
			}
		}
		if k.sure {
			hasKinds(t, word+" |  | ", k.text, "\n")
			hasKinds(t, word+" | ", k.text)
		} else {
			hasKinds(t, size+" | "+word+" | ", k.text, "\n")
			hasKinds(t, size+" | "+word, k.text)
			hasKinds(t, size+" | "+size+" | "+word, k.text, "")
		}
		hasKinds(t, word+" | ", k.text+"\n")
	}
}

// Each kind at the end of a chunk, and a token right behind it in the next one.
func TestP11_2EachKindAheadOfALetterOrASign(t *testing.T) {
	for _, k := range one {
		word := k.kind + " " + k.text
		switch k.kind {
		case "Name", "Key":
			hasKinds(t, fmt.Sprintf(" [%d] |  [%d] | Name %sz", len(k.text), len(k.text)+1, k.text), k.text, "z")
			hasKinds(t, fmt.Sprintf(" [%d] | Name %sz7 [1] | Sign :", len(k.text), k.text), k.text, "z7:")
		case "Line":
			hasKinds(t, " [4] |  [5] | Line // zz", k.text, "z")
			hasKinds(t, " [4] | Line // z:{\"' | ", k.text, ":{\"'\n")
			continue
		case "Number":
			hasKinds(t, " [2] | Number 12 [1] | Name z", k.text, "z")
			hasKinds(t, " [2] |  [3] | Number 127", k.text, "7")
		case "Sign":
			hasKinds(t, fmt.Sprintf(" [%d] | Sign %s [1] | Name z", len(k.text), k.text), k.text, "z")
		default:
			hasKinds(t, word+" |  [1] | Name z", k.text, "z")
			hasKinds(t, word+" | "+word+" | ", k.text, k.text)
		}
		for _, sign := range []string{";", "(", "<", ".", "/"} {
			if k.sure {
				hasKinds(t, word+" |  [1] | Sign "+sign, k.text, sign)
			} else {
				hasKinds(t, fmt.Sprintf(" [%d] | %s [1] | Sign %s", len(k.text), word, sign), k.text, sign)
			}
			hasKinds(t, word+" [1] | Sign "+sign, k.text+sign)
		}
		for _, s := range []string{"\"t\"", "'c'", "{}"} {
			if !k.sure {
				hasKinds(t, fmt.Sprintf(" [%d] | %s; %s | ", len(k.text), word, map[byte]string{'"': "Text ", '\'': "Char ", '{': "Block "}[s[0]]+s), k.text, s)
			}
		}
	}
}

// Each kind at the end of a chunk, and the beginning of a character behind it, in the same chunk or the next.
func TestP11_2EachKindAheadOfTheBeginningOfACharacter(t *testing.T) {
	for _, k := range one {
		word := k.kind + " " + k.text
		for _, c := range []string{"\u00e9", "\u65e5", "\U00010400"} {
			for n := 1; n < len(c); n++ {
				begun, rest := c[:n], c[n:]
				size := len(k.text)
				switch {
				case k.sure:
					hasKinds(t, fmt.Sprintf("%s [%d] |  [%d] | Name %s", word, n, len(c), c), k.text+begun, rest)
					hasKinds(t, fmt.Sprintf("%s |  [%d] |  [%d] | Name %s", word, n, len(c), c), k.text, begun, rest)
					hasKinds(t, fmt.Sprintf("%s [%d] | ErrScanByte", word, n), k.text+begun)
					hasKinds(t, fmt.Sprintf("%s [%d] | ErrScanByte | ErrScanByte", word, n), k.text+begun, ";")
				case k.kind == "Number" || k.kind == "Sign":
					hasKinds(t, fmt.Sprintf(" [%d] | %s [%d] | Name %s", size+n, word, len(c), c), k.text+begun, rest)
					hasKinds(t, fmt.Sprintf(" [%d] | %s; ErrScanByte", size+n, word), k.text+begun)
					hasKinds(t, fmt.Sprintf(" [%d] |  [%d] | %s; ErrScanByte | ErrScanByte", size, size+n, word), k.text, begun, " ")
				case k.kind == "Line":
					hasKinds(t, fmt.Sprintf(" [%d] |  [%d] | %s%s", size+n, size+len(c), word, c), k.text+begun, rest)
					hasKinds(t, fmt.Sprintf(" [%d] | %s%s", size+n, word, begun), k.text+begun)
					hasKinds(t, fmt.Sprintf(" [%d] | %s%s | ", size+n, word, begun), k.text+begun, "\n")
				default:
					hasKinds(t, fmt.Sprintf(" [%d] |  [%d] | Name %s%s", size+n, size+len(c), k.text, c), k.text+begun, rest)
					hasKinds(t, fmt.Sprintf(" [%d] | %s; ErrScanByte", size+n, word), k.text+begun)
					hasKinds(t, fmt.Sprintf(" [%d] | %s; ErrScanByte | ErrScanByte", size+n, word), k.text+begun, "z")
				}
			}
		}
	}
}

var signs = strings.Fields(":= .. <= >= ; . , : = # < > ( ) [ ] + - * / %")

// A sign waits for the character behind it, which may make a longer one of it, be that possible or not.
func TestP11_2Signs(t *testing.T) {
	for _, s := range signs {
		size := fmt.Sprintf(" [%d]", len(s))
		hasKinds(t, size+" | Sign "+s, s)
		hasKinds(t, size+" | Sign "+s+" | ", s, " ")
		hasKinds(t, size+" | Sign "+s+" | ", s, "\n")
		hasKinds(t, size+" | Sign "+s+" [1] | Name a", s, "a")
		hasKinds(t, size+" | Sign "+s+" [1] | Number 1", s, "1")
		hasKinds(t, size+" | Sign "+s+"; ErrScanByte | ErrScanByte", s, "?")
		hasKinds(t, size+" | Sign "+s+" [1] | ErrScanOpen", s, "{")
		if len(s) == 2 {
			hasKinds(t, " [1] |  [2] | Sign "+s, s[:1], s[1:])
			hasKinds(t, " [1] |  [1] |  [2] | Sign "+s+" | ", s[:1], "", s[1:], "\t")
			hasKinds(t, " [1] | Sign "+s+" | ", s[:1], s[1:]+" ")
			hasKinds(t, " [1] | Sign "+s[:1]+" |  [1] | Sign "+s[1:], s[:1], " ", s[1:])
		}
	}
	for _, a := range signs {
		for _, b := range signs {
			courseOf(a + b).allWays(t)
			courseOf(a + b + a).allWays(t)
		}
	}
	hasKinds(t, " [1] |  [2] | Sign .. [1] | Sign .", ".", ".", ".")
	hasKinds(t, " [1] | Sign : [1] |  [2] | Sign :=", ":", ":", "=")
	hasKinds(t, " [2] | Sign := [1] | Sign =", ":=", "=")
	hasKinds(t, " [1] | Sign < [1] |  [2] | Sign >=", "<", ">", "=")
	hasKinds(t, " [1] | Sign = [1] | Sign <", "=", "<")
}

// A '/' is a sign or begins a comment, as the next byte says.
func TestP11_2Slashes(t *testing.T) {
	hasKinds(t, " [1] |  [2] | Line //", "/", "/")
	hasKinds(t, " [1] |  [2] | Line // | ", "/", "/", "\n")
	hasKinds(t, " [1] | Line // | ", "/", "/\n")
	hasKinds(t, " [1] |  [2] |  [3] | Line ///", "/", "/", "/")
	hasKinds(t, " [1] | Sign / | ", "/", " ")
	hasKinds(t, " [1] | Sign / | ", "/", "\n")
	hasKinds(t, " [1] | Sign / |  [1] | Sign /", "/", " ", "/")
	hasKinds(t, " [1] | Sign / |  [1] | Sign /", "/", "\n", "/")
	hasKinds(t, " [1] | Sign / [1] | Sign =", "/", "=")
	hasKinds(t, " [1] | Sign / [1] | Name a", "/", "a")
	hasKinds(t, " [2] | Sign / [2] | Name \u00e9", "/\xc3", "\xa9")
	hasKinds(t, " [2] | Sign /; ErrScanByte | ErrScanByte", "/\xc3", "/")
	hasKinds(t, "Name a [1] |  [3] | Line //b", "a/", "/b")
	hasKinds(t, "Sign * [1] |  [2] | Line //", "*/", "/")
}
