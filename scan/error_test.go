package scan_test

import (
	"fmt"
	"strings"
	"testing"
)

func TestP10_1ExamplesOfErrors(t *testing.T) {
	for _, c := range []struct{ source, want string }{
		{"a ?", `Name "a" 0 1:1 0; ErrScanByte at 2 1:3`},
		{"a\xff", `Name "a" 0 1:1 0; ErrScanByte at 1 1:2`},
		{"}", `ErrScanByte at 0 1:1`},
		{"x\x01", `Name "x" 0 1:1 0; ErrScanByte at 1 1:2`},
		{"\"a\n\"", `ErrScanOpen at 0 1:1`},
		{"'", `ErrScanOpen at 0 1:1`},
		{"{ \"", `ErrScanOpen at 0 1:1`},
		{"'a", `ErrScanOpen at 0 1:1`},
		{"\"a\t\"", `ErrScanText at 2 1:3`},
		{"''", `ErrScanText at 1 1:2`},
		{"'ab'", `ErrScanText at 2 1:3`},
	} {
		answers(t, c.source, c.want)
	}
}

// The sources of the document's examples of the whole that have one.
func TestP10_1ExamplesOfTheWholeWithErrors(t *testing.T) {
	answers(t, "program p;\nbegin \u65e5 := \"\u00e9\" ? end.\n",
		`Key "program" 0 1:1 0; Name "p" 8 1:9 0; Sign ";" 9 1:10 0; Key "begin" 11 2:1 1; Name "日" 17 2:7 0; Sign ":=" 21 2:9 0; `+
			`Text "\"é\"" 24 2:12 0; ErrScanByte at 29 2:16`)
	answers(t, "?\n", `ErrScanByte at 0 1:1`)
	answers(t, "\"a\n", `ErrScanOpen at 0 1:1`)
	answers(t, "begin ''\n", `Key "begin" 0 1:1 0; ErrScanText at 7 1:8`)
	answers(t, "{\n", `ErrScanOpen at 0 1:1`)
}

// Ahead of an error stand all tokens that end there, and it is told where it stands, be it in the first line or not.
func TestP10_1TokensAheadOfAnError(t *testing.T) {
	for _, ahead := range []struct {
		source, told string
		line, column int
	}{
		{"", "", 1, 1},
		{" ", "", 1, 2},
		{"\n\t", "", 2, 2},
		{"if \u65e5\n:= ", `Key "if" 0 1:1 0; Name "日" 3 1:4 0; Sign ":=" 7 2:1 1; `, 2, 4},
		{"{\n\xff}", `Block "{\n\xff}" 0 1:1 0; `, 2, 3},
		{"1//x \n\n", `Number "1" 0 1:1 0; Line "//x" 1 1:2 0; `, 3, 1},
		{"\"\u00e9\"'\u00e9'", `Text "\"é\"" 0 1:1 0; Char "'é'" 4 1:4 0; `, 1, 7},
	} {
		for _, c := range []struct {
			wrong, word string
			more        int // bytes, and characters, from where the token begins
		}{
			{"?", "ErrScanByte", 0}, {"}", "ErrScanByte", 0}, {"\xff", "ErrScanByte", 0}, {"\x00", "ErrScanByte", 0}, {"\u0301", "ErrScanByte", 0},
			{"\"\n\"", "ErrScanOpen", 0}, {"\"ab\n", "ErrScanOpen", 0}, {"'\n", "ErrScanOpen", 0}, {"'a\n'", "ErrScanOpen", 0},
			{"\"\x01\"", "ErrScanText", 1}, {"\"ab\x7f\"", "ErrScanText", 3}, {"''", "ErrScanText", 1}, {"'\t'", "ErrScanText", 1}, {"'ab'", "ErrScanText", 2}, {"'a\r'", "ErrScanText", 2},
		} {
			want := fmt.Sprintf("%s%s at %d %d:%d", ahead.told, c.word, len(ahead.source)+c.more, ahead.line, ahead.column+c.more)
			answers(t, ahead.source+c.wrong, want)
			answers(t, ahead.source+c.wrong+"\u0080", want)
			answers(t, ahead.source+c.wrong+"\x01?\xff", want)
		}
		for _, open := range []string{"\"", "\"ab", "'", "'a", "{", "{\n\n", "{ //"} {
			answers(t, ahead.source+open, fmt.Sprintf("%sErrScanOpen at %d %d:%d", ahead.told, len(ahead.source), ahead.line, ahead.column))
		}
	}
}

// beginsNothing are the good characters that no token begins with and that stand not between tokens: of 00 to 7F all of
// them, of the others those at the edges of the letters, and some that other languages take for blanks, letters or digits.
func beginsNothing() []string {
	l := strings.Split("!$&?@\\^_`|}~", "")
	for b := range 0x20 {
		if !strings.Contains("\t\n\r", string(rune(b))) {
			l = append(l, string(rune(b)))
		}
	}
	return append(l, strings.Split("\x7f\u0080\u0085\u009f\u00a0\u00aa\u00b2\u00b5\u00bf\u00d7\u00f7\u0250\u02ff\u0300\u0301\u036f\u0390\u03a2\u03cf\u03ff\u0460\u05cf\u05eb\u061f\u064b\u0661\u0903\u093a"+
		"\u200b\u2028\u2029\u3000\u3040\u3097\u30a0\u30fb\u4dff\ua000\uabff\ud7a4\ue000\ufeff\ufffd\uffff\uff41\U00010000\U000103ff\U00010450\U0001f600\U0001ffff\U00030000\U0010ffff", "")...)
}

func TestP10_1WhatBeginsNothing(t *testing.T) {
	for _, s := range beginsNothing() {
		answers(t, s, `ErrScanByte at 0 1:1`)
		answers(t, s+"x", `ErrScanByte at 0 1:1`)
		answers(t, "\n "+s, `ErrScanByte at 2 2:2`)
		answers(t, "1 "+s, `Number "1" 0 1:1 0; ErrScanByte at 2 1:3`)
		answers(t, ":"+s+"=", `Sign ":" 0 1:1 0; ErrScanByte at 1 1:2`)
		answers(t, "//\n"+s, `Line "//" 0 1:1 0; ErrScanByte at 3 2:1`)
	}
	for b := 0x80; b <= 0xff; b++ {
		s := string([]byte{byte(b)})
		answers(t, s, `ErrScanByte at 0 1:1`)
		answers(t, s+"x", `ErrScanByte at 0 1:1`)
		answers(t, "x"+s, `Name "x" 0 1:1 0; ErrScanByte at 1 1:2`)
		answers(t, "\n12"+s+"3", `Number "12" 1 2:1 1; ErrScanByte at 3 2:3`)
		answers(t, "{}"+s, `Block "{}" 0 1:1 0; ErrScanByte at 2 1:3`)
	}
}

// Every other character of 00 to 7F begins something, or stands between tokens.
func TestP10_1WhatBeginsSomething(t *testing.T) {
	nothing := strings.Join(beginsNothing(), "")
	for b := range 0x80 {
		s := string(rune(b))
		if word := kinds(s); strings.Contains(word, "ErrScanByte") != strings.Contains(nothing, s) {
			t.Errorf("All(%q) tells %q", s, word)
		}
	}
}

func TestP10_1ControlsInTextsAndChars(t *testing.T) {
	for b := range 0x80 {
		s := string(rune(b))
		if b >= 0x20 && b != 0x7f {
			continue
		}
		want := "ErrScanText at %d 1:%d"
		if s == "\n" {
			want = "ErrScanOpen at 0 1:1"
		}
		at := func(n int) string {
			if s == "\n" {
				return want
			}
			return fmt.Sprintf(want, n, n+1)
		}
		answers(t, "\""+s, at(1))
		answers(t, "\""+s+"\"", at(1))
		answers(t, "\"ab"+s+"c\"", at(3))
		answers(t, "\"ab\xff"+s, at(4))
		answers(t, "'"+s, at(1))
		answers(t, "'"+s+"'", at(1))
		answers(t, "'a"+s, at(2))
		answers(t, "'a"+s+"'", at(2))
		answers(t, "'\xff"+s+"'", at(2))
	}
	answers(t, "\"\u65e5\u00e9\r\"", `ErrScanText at 6 1:4`)
	answers(t, "\"a\r\n\"", `ErrScanText at 2 1:3`)
	answers(t, "'\U00010400\t'", `ErrScanText at 5 1:3`)
}

func TestP10_1TextsWithoutTheirEnd(t *testing.T) {
	for _, inside := range append([]string{"", "'", "//", "{}", "ab c", "\xc3\xa9\xc3"}, filled...) {
		answers(t, "\""+inside, `ErrScanOpen at 0 1:1`)
		answers(t, "\""+inside+"\n", `ErrScanOpen at 0 1:1`)
		answers(t, "\""+inside+"\n\"x\x01", `ErrScanOpen at 0 1:1`)
		answers(t, "\"\"\""+inside, `Text "\"\"" 0 1:1 0; ErrScanOpen at 2 1:3`)
		answers(t, ";\n \""+inside, `Sign ";" 0 1:1 0; ErrScanOpen at 3 2:2`)
	}
}

func TestP10_1CharsWithoutTheirEnd(t *testing.T) {
	for _, inside := range append([]string{""}, filled...) {
		answers(t, "'"+inside, `ErrScanOpen at 0 1:1`)
		answers(t, "'"+inside+"\n", `ErrScanOpen at 0 1:1`)
		answers(t, "'"+inside+"\n'x", `ErrScanOpen at 0 1:1`)
		answers(t, "\n '"+inside+"\n", `ErrScanOpen at 2 2:2`)
		answers(t, "'x''"+inside, `Char "'x'" 0 1:1 0; ErrScanOpen at 3 1:4`)
	}
}

func TestP10_1CharsOfNoneOrMore(t *testing.T) {
	answers(t, "''", `ErrScanText at 1 1:2`)
	answers(t, "'''", `ErrScanText at 1 1:2`)
	answers(t, "''''", `ErrScanText at 1 1:2`)
	answers(t, "''\n", `ErrScanText at 1 1:2`)
	answers(t, " ''x", `ErrScanText at 2 1:3`)
	for _, a := range filled {
		for _, b := range append([]string{"\"", "b"}, filled...) {
			if len([]rune(a+b)) != 2 {
				continue // two bad bytes that are one good character
			}
			answers(t, "'"+a+b, fmt.Sprintf("ErrScanText at %d 1:3", 1+len(a)))
			answers(t, "'"+a+b+"'", fmt.Sprintf("ErrScanText at %d 1:3", 1+len(a)))
		}
	}
	hasKinds(t, "'\xc3\xa9'", "Char '\u00e9'")
	answers(t, "'\xc3\xa9\xa9'", `ErrScanText at 3 1:3`)
	answers(t, "'\xf0\x9f\x98'", `ErrScanText at 2 1:3`)
}

func TestP10_1BlocksWithoutTheirEnd(t *testing.T) {
	for _, inside := range []string{"", "{", "\"", "'", "//", "\n", "\n\n x", "\x00", "\xff", "\u65e5", "if x ? '' \"\t\""} {
		answers(t, "{"+inside, `ErrScanOpen at 0 1:1`)
		answers(t, "x\n {"+inside, `Name "x" 0 1:1 0; ErrScanOpen at 3 2:2`)
		answers(t, "{}{"+inside, `Block "{}" 0 1:1 0; ErrScanOpen at 2 1:3`)
	}
}

// The first one that is met is told, whatever stands behind.
func TestP10_1TheFirstError(t *testing.T) {
	for _, c := range []struct{ source, want string }{
		{"? \"", `ErrScanByte at 0 1:1`},
		{"\"\x01\n", `ErrScanText at 1 1:2`},
		{"\"\n\x01", `ErrScanOpen at 0 1:1`},
		{"'\n?", `ErrScanOpen at 0 1:1`},
		{"''?", `ErrScanText at 1 1:2`},
		{"{?", `ErrScanOpen at 0 1:1`},
		{"a}b{", `Name "a" 0 1:1 0; ErrScanByte at 1 1:2`},
		{"//?\n'ab", `Line "//?" 0 1:1 0; ErrScanText at 6 2:3`},
		{"\"a\x02b\x03", `ErrScanText at 2 1:3`},
	} {
		answers(t, c.source, c.want)
	}
}
