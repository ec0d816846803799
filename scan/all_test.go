package scan_test

import (
	"fmt"
	"strings"
	"testing"

	"colophon/api"
	"colophon/class"
	"colophon/samples"
	"colophon/scan"
)

func TestP10_1Examples(t *testing.T) {
	for _, c := range []struct{ source, want string }{
		{"", ""},
		{"a", `Name "a" 0 1:1 0`},
		{"if x1:=..2", `Key "if" 0 1:1 0; Name "x1" 3 1:4 0; Sign ":=" 5 1:6 0; Sign ".." 7 1:8 0; Number "2" 9 1:10 0`},
		{"\u00e9\n\n// b \r\n/", `Name "é" 0 1:1 0; Line "// b" 4 3:1 2; Sign "/" 11 4:1 1`},
		{"\"a\xff\"'\u00e9'{\n}x", `Text "\"a\xff\"" 0 1:1 0; Char "'é'" 4 1:5 0; Block "{\n}" 8 1:8 0; Name "x" 11 2:2 0`},
		{"12ab", `Number "12" 0 1:1 0; Name "ab" 2 1:3 0`},
		{"a.b", `Name "a" 0 1:1 0; Sign "." 1 1:2 0; Name "b" 2 1:3 0`},
		{"///", `Line "///" 0 1:1 0`},
	} {
		answers(t, c.source, c.want)
	}
}

// The sources of the document's examples of the whole that have no error.
func TestP10_1ExamplesOfTheWhole(t *testing.T) {
	answers(t, "a:=\"\u65e5\u672c\" // \u00e9\n", `Name "a" 0 1:1 0; Sign ":=" 1 1:2 0; Text "\"日本\"" 3 1:4 0; Line "// é" 12 1:9 0`)
	answers(t, "program p; // q\nbegin {x} x:= // one\n\n\n1; {two} skip\n// three\nend.\n",
		`Key "program" 0 1:1 0; Name "p" 8 1:9 0; Sign ";" 9 1:10 0; Line "// q" 11 1:12 0; `+
			`Key "begin" 16 2:1 1; Block "{x}" 22 2:7 0; Name "x" 26 2:11 0; Sign ":=" 27 2:12 0; Line "// one" 30 2:15 0; `+
			`Number "1" 39 5:1 3; Sign ";" 40 5:2 0; Block "{two}" 42 5:4 0; Key "skip" 48 5:10 0; `+
			`Line "// three" 53 6:1 1; Key "end" 62 7:1 1; Sign "." 65 7:4 0`)
}

func TestP10_1NoToken(t *testing.T) {
	for _, s := range []string{"", " ", "\t", "\r", "\n", "\r\n", "\n\n", " \t\r\n \n\t\r", strings.Repeat(" ", 70000), strings.Repeat("\n", 70000)} {
		answers(t, s, "")
	}
}

// one is a token of each kind, and what it is told as.
var one = []struct {
	kind api.TokKind
	text string
}{
	{api.TokName, "ab"}, {api.TokKey, "if"}, {api.TokNumber, "12"}, {api.TokText, "\"x\u00e9\""}, {api.TokChar, "'\u65e5'"},
	{api.TokSign, "<="}, {api.TokLine, "// z"}, {api.TokBlock, "{b\nc}"},
}

func TestP10_1EachKindAlone(t *testing.T) {
	for _, k := range one {
		hasKinds(t, k.text, samples.KindWord(k.kind)+" "+k.text)
	}
}

func TestP10_1EachKindBehindBlanksAndLineEnds(t *testing.T) {
	for _, k := range one {
		for _, gap := range []string{" ", "\t", "\r", "\n", "\r\n", "\n\r", "  ", "\n\n", " \n\t\n\r ", "\n\n\n \n"} {
			feeds := strings.Count(gap, "\n")
			line, column := 1+feeds, len(gap)-strings.LastIndex(gap, "\n")
			want := fmt.Sprintf("%s %q %d %d:%d %d", samples.KindWord(k.kind), k.text, len(gap), line, column, feeds)
			answers(t, gap+k.text, want)
			if k.kind != api.TokLine {
				answers(t, gap+k.text+gap, want)
			}
		}
	}
}

// merged is the kind of what two tokens make that stand right behind one another; 0: they stay two.
func merged(a, b api.TokKind) api.TokKind {
	word := func(k api.TokKind) bool { return k == api.TokName || k == api.TokKey }
	switch {
	case a == api.TokLine:
		return api.TokLine
	case word(a) && (word(b) || b == api.TokNumber):
		return api.TokName
	case a == api.TokNumber && b == api.TokNumber:
		return api.TokNumber
	}
	return 0
}

func TestP10_1EachKindBehindEachOther(t *testing.T) {
	for _, a := range one {
		for _, b := range one {
			if a.kind == api.TokLine && b.kind == api.TokBlock {
				continue // the line ends within what were the block
			}
			want := samples.KindWord(a.kind) + " " + a.text + "; " + samples.KindWord(b.kind) + " " + b.text
			if kind := merged(a.kind, b.kind); kind != 0 {
				want = samples.KindWord(kind) + " " + a.text + b.text
			}
			hasKinds(t, a.text+b.text, want)
		}
	}
	hasKinds(t, "// z{b\nc}", "Line // z{b; Name c; ErrScanByte at 8 2:2")
}

func TestP10_1EachKindInTheNextLine(t *testing.T) {
	for _, a := range one {
		for _, b := range one {
			for _, gap := range []string{"\n", " \n", "\r\n", "\n \n", "\n\n\n"} {
				l, code, _ := scan.All(a.text + gap + b.text)
				if code != api.OK || len(l) != 2 || l[1].Feeds != strings.Count(gap, "\n") || l[0].Feeds != 0 {
					t.Errorf("%q, %q, %q: %s", a.text, gap, b.text, samples.AnswerWord(l, code, api.Place{}))
				}
				hasKinds(t, a.text+gap+b.text, samples.KindWord(a.kind)+" "+a.text+"; "+samples.KindWord(b.kind)+" "+b.text)
			}
		}
	}
}

func TestP10_1KeysAndNames(t *testing.T) {
	for _, key := range class.Keys() {
		hasKinds(t, key, "Key "+key)
		for _, more := range []string{"1", "_", "z", "Z", "\u00e9", "\u0301", "\u65e5", "\U00010400", key} {
			hasKinds(t, key+more, "Name "+key+more)
		}
		hasKinds(t, "z"+key, "Name z"+key)
		hasKinds(t, strings.ToUpper(key), "Name "+strings.ToUpper(key))
		for _, end := range []string{";", "(", "\"\"", "{}", "//"} {
			if !strings.HasPrefix(kinds(key+end), "Key "+key+"; ") {
				t.Errorf("All(%q) tells %s", key+end, kinds(key+end))
			}
		}
		for n := 1; n < len(key); n++ {
			want := "Name " + key[:n]
			if class.IsKey(key[:n]) {
				want = "Key " + key[:n]
			}
			hasKinds(t, key[:n], want)
		}
	}
	hasKinds(t, "begin end", "Key begin; Key end")
	hasKinds(t, "do done to toe", "Key do; Name done; Key to; Name toe")
	hasKinds(t, "or order program programs proc", "Key or; Name order; Key program; Name programs; Key proc")
}

// Names of letters and parts of one to four bytes.
func TestP10_1Names(t *testing.T) {
	for _, s := range []string{
		"a", "Z", "a1", "a_", "a__9z", "\u00e9", "\u00e9t\u00e9", "e\u0301", "a\u0301\u036f1", "\u05d0", "\u65e5\u672c", "\u3041\u30fa",
		"\ud7a3", "\U00010400", "\U0002ffff", "a\U00020000b", "\u0391\u0392_\u0301\u65e5\U00010400z0",
	} {
		hasKinds(t, s, "Name "+s)
		hasKinds(t, s+" "+s, "Name "+s+"; Name "+s)
		hasKinds(t, s+"."+s, "Name "+s+"; Sign .; Name "+s)
	}
	answers(t, "\u00e9 \u65e5e\u0301\U00010400;x", `Name "é" 0 1:1 0; Name "日e`+"\u0301"+`𐐀" 3 1:3 0; Sign ";" 13 1:7 0; Name "x" 14 1:8 0`)
}

func TestP10_1WhatEndsAName(t *testing.T) {
	answers(t, "a\u00d7", `Name "a" 0 1:1 0; ErrScanByte at 1 1:2`)
	answers(t, "a\ufffd", `Name "a" 0 1:1 0; ErrScanByte at 1 1:2`)
	answers(t, "a\xc3", `Name "a" 0 1:1 0; ErrScanByte at 1 1:2`)
	answers(t, "\u00e9\xc3b", `Name "é" 0 1:1 0; ErrScanByte at 2 1:2`)
	answers(t, "\u65e5\x80", `Name "日" 0 1:1 0; ErrScanByte at 3 1:2`)
	answers(t, "a?", `Name "a" 0 1:1 0; ErrScanByte at 1 1:2`)
}

func TestP10_1Numbers(t *testing.T) {
	hasKinds(t, "0123456789", "Number 0123456789")
	hasKinds(t, "0", "Number 0")
	hasKinds(t, "007", "Number 007")
	hasKinds(t, "1 2", "Number 1; Number 2")
	hasKinds(t, "12ab3", "Number 12; Name ab3")
	hasKinds(t, "1end", "Number 1; Key end")
	hasKinds(t, "1e5", "Number 1; Name e5")
	hasKinds(t, "1\u00e92", "Number 1; Name \u00e92")
	hasKinds(t, "1\u65e5", "Number 1; Name \u65e5")
	hasKinds(t, "1\U00010400", "Number 1; Name \U00010400")
	hasKinds(t, "1..2", "Number 1; Sign ..; Number 2")
	hasKinds(t, "1.2", "Number 1; Sign .; Number 2")
	hasKinds(t, "-1", "Sign -; Number 1")
	answers(t, "1_", `Number "1" 0 1:1 0; ErrScanByte at 1 1:2`)
	answers(t, "1\u0301", `Number "1" 0 1:1 0; ErrScanByte at 1 1:2`)
	answers(t, "1\u0661", `Number "1" 0 1:1 0; ErrScanByte at 1 1:2`) // a digit elsewhere, but not here
	answers(t, "1\xb2", `Number "1" 0 1:1 0; ErrScanByte at 1 1:2`)
	answers(t, "1:;", `Number "1" 0 1:1 0; Sign ":" 1 1:2 0; Sign ";" 2 1:3 0`)
}

var signs = strings.Fields(":= .. <= >= ; . , : = # < > ( ) [ ] + - * / %")

func TestP10_1EachSign(t *testing.T) {
	for _, s := range signs {
		hasKinds(t, s, "Sign "+s)
		hasKinds(t, " "+s+"\n"+s+" ", "Sign "+s+"; Sign "+s)
		hasKinds(t, "a"+s+"1", "Name a; Sign "+s+"; Number 1")
		hasKinds(t, s+"a", "Sign "+s+"; Name a")
		hasKinds(t, s+"\"\"", "Sign "+s+"; Text \"\"")
		hasKinds(t, s+"'a'", "Sign "+s+"; Char 'a'")
		hasKinds(t, s+"{}", "Sign "+s+"; Block {}")
	}
}

// Where signs stand without a blank the longest one is taken.
func TestP10_1RowsOfSigns(t *testing.T) {
	for _, c := range []struct{ source, want string }{
		{"...", ".. ."}, {"....", ".. .."}, {".....", ".. .. ."}, {":=:=", ":= :="}, {"::=", ": :="}, {":==", ":= ="}, {"=:=", "= :="},
		{"<==", "<= ="}, {"<=>", "<= >"}, {"<>=", "< >="}, {">=<=", ">= <="}, {"=<", "= <"}, {"=>", "= >"}, {"<<=", "< <="}, {">>", "> >"},
		{"()[]", "( ) [ ]"}, {"+-*/%", "+ - * / %"}, {";.,:", "; . , :"}, {":.=", ": . ="}, {"=..=", "= .. ="}, {"#=", "# ="}, {"/*/", "/ * /"},
		{"/=", "/ ="}, {"/.", "/ ."}, {"- -", "- -"}, {". .", ". ."}, {": =", ": ="},
	} {
		hasKinds(t, c.source, "Sign "+strings.ReplaceAll(c.want, " ", "; Sign "))
	}
}

func TestP10_1EachTwoSigns(t *testing.T) {
	for _, a := range signs {
		for _, b := range signs {
			if a == "/" && b == "/" {
				continue
			}
			want := "Sign " + a + "; Sign " + b
			if len(a) == 1 && strings.Contains(" := .. <= >= ", " "+a+b+" ") {
				want = "Sign " + a + b
			}
			switch a + b {
			case ":==", "<==", ">==":
				want = "Sign " + (a + b)[:2] + "; Sign ="
			case "...":
				want = "Sign ..; Sign ."
			}
			hasKinds(t, a+b, want)
		}
	}
}

func TestP10_1LineComments(t *testing.T) {
	for _, c := range []struct{ source, want string }{
		{"//", "Line //"}, {"///", "Line ///"}, {"////", "Line ////"}, {"a//", "Name a; Line //"}, {"//\n", "Line //"}, {"// \n", "Line //"},
		{"//a", "Line //a"}, {"// a b", "Line // a b"}, {"//a\nb", "Line //a; Name b"}, {"//\n/", "Line //; Sign /"}, {"/\n//", "Sign /; Line //"},
		{"/ /", "Sign /; Sign /"}, {"/ //", "Sign /; Line //"}, {"*//", "Sign *; Line //"}, {"//{\n}", "Line //{; ErrScanByte at 4 2:1"},
		{"//\"\n\"\"", "Line //\"; Text \"\""}, {"// '\n", "Line // '"}, {"//x//y\n//z", "Line //x//y; Line //z"}, {"1//1", "Number 1; Line //1"},
		{"// \u00e9\u65e5\U0001f600", "Line // \u00e9\u65e5\U0001f600"}, {"//\u00a0\n", "Line //\u00a0"}, {"//\x0b\n", "Line //\x0b"},
		{"\"//\"", "Text \"//\""}, {"'/'/", "Char '/'; Sign /"},
	} {
		hasKinds(t, c.source, c.want)
	}
}

// The blanks at its end are none of its Text, be it at a line's end or the source's; those within are.
func TestP10_1BlanksAtALineCommentsEnd(t *testing.T) {
	for _, inside := range []string{"", "a", " a", "\ta\r b", "a \t\r .", " \xff", "\xff \xc3", "\x00", "a\x01", "\u3000"} {
		for _, blanks := range []string{"", " ", "\t", "\r", "  ", " \t\r", "\r\r ", "\t "} {
			hasKinds(t, "//"+inside+blanks, "Line //"+inside)
			hasKinds(t, "//"+inside+blanks+"\n", "Line //"+inside)
			hasKinds(t, "//"+inside+blanks+"\n;", "Line //"+inside+"; Sign ;")
		}
	}
	answers(t, "// b\t \r\n\r\nc", `Line "// b" 0 1:1 0; Name "c" 10 3:1 2`)
}

// Bad bytes and all controls but a line end may stand in a comment.
func TestP10_1AnyBytesInComments(t *testing.T) {
	for n := range 256 {
		b := string([]byte{byte(n)})
		if b != "\n" {
			hasKinds(t, "//"+b+"x", "Line //"+b+"x")
			hasKinds(t, "//x"+b+".\n1", "Line //x"+b+".; Number 1")
		}
		if b != "}" {
			hasKinds(t, "{"+b+"}", "Block {"+b+"}")
			hasKinds(t, "{x"+b+"x}1", "Block {x"+b+"x}; Number 1")
		}
	}
	hasKinds(t, "{\xc3}", "Block {\xc3}")
	hasKinds(t, "{\xf0\x9f\x98}\n", "Block {\xf0\x9f\x98}")
	hasKinds(t, "//\xf0\x9f\x98\n}", "Line //\xf0\x9f\x98; ErrScanByte at 6 2:1")
}

func TestP10_1Blocks(t *testing.T) {
	for _, c := range []struct{ source, want string }{
		{"{}", "Block {}"}, {"{ }", "Block { }"}, {"{{}", "Block {{}"}, {"{{{}", "Block {{{}"}, {"{}{}", "Block {}; Block {}"},
		{"{a}b", "Block {a}; Name b"}, {"a{b}c", "Name a; Block {b}; Name c"}, {"{\"}", "Block {\"}"}, {"{'}", "Block {'}"}, {"{//}", "Block {//}"},
		{"{//\n}", "Block {//\n}"}, {"{ // \" ' { \n \r\n\t }x", "Block { // \" ' { \n \r\n\t }; Name x"}, {"{\u00e9\u65e5\U0001f600}", "Block {\u00e9\u65e5\U0001f600}"},
		{"{} }", "Block {}; ErrScanByte at 3 1:4"}, {"//{}\n{//}", "Line //{}; Block {//}"}, {"\"{\"", "Text \"{\""}, {"'{''}'", "Char '{'; Char '}'"},
	} {
		hasKinds(t, c.source, c.want)
	}
}

// The line ends within a block are no Feeds, but the line and the column behind it hang on them.
func TestP10_1Feeds(t *testing.T) {
	for _, c := range []struct{ source, want string }{
		{"a b", `Name "a" 0 1:1 0; Name "b" 2 1:3 0`},
		{"\n\n a", `Name "a" 3 3:2 2`},
		{"a\n\n\nb c", `Name "a" 0 1:1 0; Name "b" 4 4:1 3; Name "c" 6 4:3 0`},
		{"{\n}x", `Block "{\n}" 0 1:1 0; Name "x" 3 2:2 0`},
		{"{\n\n}\nx", `Block "{\n\n}" 0 1:1 0; Name "x" 5 4:1 1`},
		{"\n{\n\u00e9}{\n}\n\nx", `Block "{\né}" 1 2:1 1; Block "{\n}" 6 3:3 0; Name "x" 11 6:1 2`},
		{"//\nx", `Line "//" 0 1:1 0; Name "x" 3 2:1 1`},
		{"//\n//\n\n//", `Line "//" 0 1:1 0; Line "//" 3 2:1 1; Line "//" 7 4:1 2`},
		{"a // b\n{c}\n d", `Name "a" 0 1:1 0; Line "// b" 2 1:3 0; Block "{c}" 7 2:1 1; Name "d" 12 3:2 1`},
		{"\r\n\r\na\r\n", `Name "a" 4 3:1 2`},
		{"a\rb\r\r c", `Name "a" 0 1:1 0; Name "b" 2 1:3 0; Name "c" 6 1:7 0`},
		{"\x0d1\x0d+\x0d\"\"\x0d", `Number "1" 1 1:2 0; Sign "+" 3 1:4 0; Text "\"\"" 5 1:6 0`},
		{"\u65e5\xc3", `Name "日" 0 1:1 0; ErrScanByte at 3 1:2`},
		{"\n//\xff\n\"\xff\u00e9\" '\xff' x", `Line "//\xff" 1 2:1 1; Text "\"\xffé\"" 5 3:1 1; Char "'\xff'" 11 3:6 0; Name "x" 15 3:10 0`},
	} {
		answers(t, c.source, c.want)
	}
}

// filled are characters of each size and bad bytes, all of which may stand in a text and a char.
var filled = []string{
	"a", " ", "~", "\\", "{", "}", "/", "?", "_", "\u0080", "\u0085", "\u009f", "\u00e9", "\u0301", "\u2028", "\u65e5", "\ufeff", "\ufffd", "\U00010400", "\U0010ffff",
	"\x80", "\xa9", "\xbf", "\xc0", "\xc3", "\xe0", "\xf0", "\xf5", "\xff",
}

func TestP10_1Texts(t *testing.T) {
	for _, s := range []string{"", "'", "''", "//", "// {", "{", " a ", "\\", "\xc3\xa9", "\xf0\x9f\x98", "\xed\xa0\x80", "if x"} {
		hasKinds(t, "\""+s+"\"", "Text \""+s+"\"")
	}
	for _, a := range filled {
		hasKinds(t, "\""+a+"\"", "Text \""+a+"\"")
		for _, b := range filled {
			hasKinds(t, "\""+a+b+"\"1", "Text \""+a+b+"\"; Number 1")
		}
	}
	hasKinds(t, "\"\"\"\"", "Text \"\"; Text \"\"")
	hasKinds(t, "\"a\\\"b", "Text \"a\\\"; Name b")
}

func TestP10_1Chars(t *testing.T) {
	for _, a := range append([]string{"\""}, filled...) {
		hasKinds(t, "'"+a+"'", "Char '"+a+"'")
		hasKinds(t, "'"+a+"''"+a+"'x", "Char '"+a+"'; Char '"+a+"'; Name x")
	}
}
