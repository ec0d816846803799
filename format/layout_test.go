package format_test

import (
	"strings"
	"testing"

	"colophon/api"
)

// What the chapter's example lays, and what others do, told by hand.
func TestP16_1ALayout(t *testing.T) {
	for source, want := range map[string]string{
		"program p;begin skip end.":     `"program" S "p" ";" H "begin" [e2 H "skip" ] H "end" "." H`,
		"program p;begin skip end.{c}":  `"program" S "p" ";" H "begin" [e2 H "skip" ] H "end" "." S "{c}" H`,
		"program p;begin skip end.\n//": `"program" S "p" ";" H "begin" [e2 H "skip" ] H "end" "." H "//" H`,
		"{c} program p;begin a:=1;\n\nskip//\xff\nend.": `H "{c}" H "program" S "p" ";" H "begin" [e2 H [2 "a" S ":=" ` +
			`B1 [0 [0 [0 [0 "1" ] ] ] ] ] ";" H E "skip" S "//\xff" ] H "end" "." H`,
	} {
		if got := layout(source); got.String() != want {
			t.Errorf("%q:\n%s\nnot\n%s", source, got, want)
		}
	}
}

// filled is a source with a part behind it, again and again, and then blanks, so that it has so many bytes.
func filled(source, part string, bytes int) string {
	all := source + strings.Repeat(part, (bytes-len(source))/len(part))
	return all + strings.Repeat(" ", bytes-len(all))
}

// A source may have 262144 bytes, whatever they are, and one more is too much, whatever else is wrong.
func TestP16_1Long(t *testing.T) {
	const most = 262144
	for _, part := range []string{" ", "\n", "\t\r", "{c} ", "//c\n", "{\u65e5}\n"} {
		for _, bytes := range []int{most - 1, most} {
			source := filled(head+"end.", part, bytes)
			if got := layout(source); len(source) != bytes || got.wrong != "" || len(got.laid) < 14 {
				t.Errorf("%d bytes, %q: %s", len(source), part, got)
			}
		}
	}
	for _, source := range []string{"", "?", ";", head + "end.", head + "end.//", "\"", "{", "\xff", head + "end.end"} {
		for _, part := range []string{" ", "\n", "a", "?", "\xff", "\u65e5", "{c}", "("} {
			for _, bytes := range []int{most + 1, most + 2, 2 * most} {
				refuses(t, wrong{filled(source, part, bytes), "error 2 at 0 0:0"})
			}
		}
	}
	refuses(t, wrong{strings.Repeat(" ", most), "ErrParseEnd at 262144 1:262145"})
	refuses(t, wrong{strings.Repeat("\n", most), "ErrParseEnd at 262144 262145:1"})
	refuses(t, wrong{strings.Repeat("?", most), "ErrScanByte at 0 1:1"})
	refuses(t, wrong{strings.Repeat(" ", most-1) + ";", "ErrParseTok at 262143 1:262144"})
}

// A token that can't stand: its place.
func TestP16_1AToken(t *testing.T) {
	for _, c := range []wrong{
		{";", "ErrParseTok at 0 1:1"},
		{"\n\n  end", "ErrParseTok at 4 3:3"},
		{"\u00e9", "ErrParseTok at 0 1:1"},
		{"program p;\n\u00e9", "ErrParseTok at 11 2:1"},
		{"program \u65e5\u672c begin", "ErrParseTok at 15 1:12"},
		{"program program", "ErrParseTok at 8 1:9"},
		{"{\xff\n\u00e9} {c} begin", "ErrParseTok at 11 2:8"},
		{"// \u00e9\n// \xff\n begin", "ErrParseTok at 12 3:2"},
		{"program p; // \u00e9\n{\u65e5} \"\xc3\xa9\xff\" begin", "ErrParseTok at 23 2:5"},
		{head + "skip", "ErrParseTok at 21 1:22"},
		{head + "end. .", "ErrParseTok at 26 1:27"},
		{head + "end.\n{c}\n\nend", "ErrParseTok at 31 4:1"},
		{"program p;begin skip;; skip end.", "ErrParseTok at 21 1:22"},
		{"program p;begin x:=1=2=3 end.", "ErrParseTok at 22 1:23"},
		{"program p;begin\n\tx:='\u65e5' 'c' end.", "ErrParseTok at 26 2:9"},
		{"program p;begin if a then skip end else", "ErrParseTok at 35 1:36"},
		{"program p;begin a.1", "ErrParseTok at 18 1:19"},
	} {
		refuses(t, c)
	}
}

// A token that is too deep: its place.
func TestP16_1ATokenThatIsTooDeep(t *testing.T) {
	deep := func(n int) string {
		return "program p;begin\na:=" + strings.Repeat("(", n) + "b" + strings.Repeat(")", n) + " end."
	}
	if got := layout(deep(198)); got.wrong != "" || len(got.laid) == 0 {
		t.Error(got)
	}
	refuses(t, wrong{deep(199), "ErrParseDeep at 218 2:203"})
	refuses(t, wrong{deep(200), "ErrParseDeep at 218 2:203"})
	refuses(t, wrong{deep(300) + "?", "ErrParseDeep at 218 2:203"})
	// The first one is in two nodes more than Program, and so is each in the one ahead.
	refuses(t, wrong{"program p;" + strings.Repeat("proc \u65e5;\n", 499), "ErrParseEnd at 5000 500:1"})
	refuses(t, wrong{"program p;" + strings.Repeat("proc \u65e5;\n", 500), "ErrParseDeep at 5000 500:1"})
	// The first one is in Program and Block, and each in two more than the one ahead.
	refuses(t, wrong{"program p;" + strings.Repeat("begin {c}", 500), "ErrParseEnd at 4510 1:4511"})
	refuses(t, wrong{"program p;" + strings.Repeat("begin {c}", 501) + "?", "ErrParseDeep at 4510 1:4511"})
}

// What scan refuses: its place, whatever stands behind.
func TestP16_1WhatIsNoToken(t *testing.T) {
	long := strings.Repeat("a", api.MaxTok)
	for _, c := range []wrong{
		{"?", "ErrScanByte at 0 1:1"},
		{"\xff", "ErrScanByte at 0 1:1"},
		{head + "?", "ErrScanByte at 21 1:22"},
		{head + "\n\u00e9\xff end.", "ErrParseTok at 22 2:1"},
		{head + "; \u00e9\xff end.", "ErrScanByte at 25 1:25"},
		{"program \u00e9;\n \u65e5", "ErrParseTok at 13 2:2"},
		{"program \u00e9;\n }", "ErrScanByte at 13 2:2"},
		{head + "end. \x01", "ErrScanByte at 26 1:27"},
		{head + "end.{\u00e9}?", "ErrScanByte at 29 1:29"},
		{head + "end.//?\n?", "ErrScanByte at 29 2:1"},
		{"program p;begin \"\u00e9\n", "ErrScanOpen at 16 1:17"},
		{"program p;begin x:=\"\u00e9", "ErrScanOpen at 19 1:20"},
		{"program p;\n{ skip end.", "ErrScanOpen at 11 2:1"},
		{head + "end.\n 'a", "ErrScanOpen at 27 2:2"},
		{"program p;begin x:=\"\u00e9\t\" end.", "ErrScanText at 22 1:22"},
		{"program p;begin x:='ab' end.", "ErrScanText at 21 1:22"},
		{"program p;begin x:=''", "ErrScanText at 20 1:21"},
		{"program " + long + ";\nbegin " + long + "a end.", "ErrScanLong at 65551 2:7"},
		{"program p;\n{" + long + "}", "ErrScanLong at 11 2:1"},
		{"//" + strings.Repeat(" ", api.MaxTok), "ErrScanLong at 0 1:1"},
	} {
		refuses(t, c)
	}
	if got := layout("program " + long + ";begin skip end."); got.wrong != "" || got.laid[2].Text != long {
		t.Error(got)
	}
}

// The end, ahead of its time: the place behind the last byte, be that a blank, a line's end, a comment's or a token's.
func TestP16_1TheEnd(t *testing.T) {
	for _, c := range []wrong{
		{"", "ErrParseEnd at 0 1:1"},
		{" ", "ErrParseEnd at 1 1:2"},
		{"\n", "ErrParseEnd at 1 2:1"},
		{" \r\n\t\r", "ErrParseEnd at 5 2:3"},
		{"{c}", "ErrParseEnd at 3 1:4"},
		{"{\u65e5\n\u00e9}", "ErrParseEnd at 8 2:3"},
		{"//\xff\u00e9", "ErrParseEnd at 5 1:5"},
		{"//\xc3", "ErrParseEnd at 3 1:4"},
		{"program", "ErrParseEnd at 7 1:8"},
		{"program \u65e5", "ErrParseEnd at 11 1:10"},
		{"program \u65e5\n\n", "ErrParseEnd at 13 3:1"},
		{head + "end", "ErrParseEnd at 24 1:25"},
		{head + "end\n", "ErrParseEnd at 25 2:1"},
		{head + "end {c} // \u00e9\xff  ", "ErrParseEnd at 37 1:37"},
		{"program p;begin x:=\"\u00e9\xff\"", "ErrParseEnd at 24 1:24"},
		{"program p;begin x:=a.", "ErrParseEnd at 21 1:22"},
	} {
		refuses(t, c)
	}
}

// The first in the source is told, of all that is wrong.
func TestP16_1TheFirst(t *testing.T) {
	for _, c := range []wrong{
		{"; ?", "ErrParseTok at 0 1:1"},
		{"? ;", "ErrScanByte at 0 1:1"},
		{"program ; \"", "ErrParseTok at 8 1:9"},
		{"program \" ;", "ErrScanOpen at 8 1:9"},
		{"program p;begin end ''", "ErrParseTok at 16 1:17"},
		{"program p;begin '' end", "ErrScanText at 17 1:18"},
		{"program p;begin skip ?", "ErrScanByte at 21 1:22"},
		{"program p;begin skip ;", "ErrParseEnd at 22 1:23"},
		{"{c} ?", "ErrScanByte at 4 1:5"},
		{"{c} {", "ErrScanOpen at 4 1:5"},
		{"{c} begin {", "ErrParseTok at 4 1:5"},
		{head + "end. ?", "ErrScanByte at 26 1:27"},
		{head + "end. end ?", "ErrParseTok at 26 1:27"},
		{head + "end.?.", "ErrScanByte at 25 1:26"},
	} {
		refuses(t, c)
	}
}
