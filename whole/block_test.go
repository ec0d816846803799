package whole_test

import (
	"slices"
	"strings"
	"testing"

	"colophon/api"
	"colophon/samples"
)

func TestP8_1BlocksAsWideAsTheRoom(t *testing.T) {
	for _, c := range []struct {
		words       string
		columns     int // exactly as many as the block has room in
		fits, wider string
	}{
		{"[e2 aa B1 bb ]", 5, "aa bb", "aa\n  bb"},
		{"[e2 aa B0 bb ]", 4, "aabb", "aa\n  bb"},
		{"[e2 aa S bb B1 c ]", 7, "aa bb c", "aa bb\n  c"},
		{"[e2 aa B1 bb ] ccccc", 5, "aa bbccccc", "aa\n  bbccccc"},
		{"xx S [e2 aa B1 bb ]", 8, "xx aa bb", "xx aa\n  bb"},
		{"x H [e2 aa B1 bb ]", 5, "x\naa bb", "x\naa\n  bb"},
		{"[3 x H [e2 aa B1 bb ] ]", 8, "x\n   aa bb", "x\n   aa\n     bb"},
		{"[e2 S aa B1 bb ]", 6, "aa bb", "aa\n  bb"},
		{"[e2 aa B1 bb S ]", 6, "aa bb", "aa\n  bb"},
		{"[e2 aa B1 bb B3 ]", 8, "aa bb", "aa\n  bb\n"},
		{"[e2 aa B1 [e2 b B1 c ] ]", 6, "aa b c", "aa\n  b c"},
		{"[e2 aa [9 B1 ] [9 ] B1 b ]", 5, "aa  b", "aa\n  b"},
		{"[e2 日 B1 \xff ]", 4, "日 \xff", "日\n  \xff"},
		{"[2 aa B1 bb B1 cc ]", 8, "aa bb cc", "aa bb\n  cc"},
		{"[2 aa B1 [e2 b B1 c ] ]", 6, "aa b c", "aa\n  b c"},
		{"[e0 aa B1 [2 b B1 c ] ]", 6, "aa b c", "aa\nb c"},
	} {
		printIs(t, c.columns, of(c.words), c.fits)
		printIs(t, c.columns-1, of(c.words), c.wider)
	}
}

// At the greatest width a block may be one column too wide too, and any number of them.
func TestP8_1TheGreatestRoom(t *testing.T) {
	for _, c := range []struct {
		texts []int // how many columns each has
		fits  bool
	}{
		{[]int{4093}, true},
		{[]int{4094}, false},
		{[]int{4095}, false},
		{[]int{4096}, false},
		{[]int{4097}, false},
		{[]int{65535}, false},
		{[]int{2046, 2047}, true},
		{[]int{2047, 2047}, false},
		{[]int{1, 4092}, true},
		{[]int{4092, 2}, false},
		{[]int{4096, 4096}, false},
		{[]int{65535, 65535, 65535}, false},
	} {
		var texts []api.Doc
		line := ""
		for _, n := range c.texts {
			t := strings.Repeat("a", n)
			texts, line = append(texts, api.Doc{Kind: api.Text, Text: t}), line+t
		}
		want := "x\n " + line + "\n y"
		if c.fits {
			want = "x " + line + "y"
		}
		printIs(t, 4096, slices.Concat(of("[e1 x B1"), texts, of("B0 y ]")), want)
		want = "x\n" + line + "y\nz"
		if c.fits {
			want = "x " + line + "y\nz"
		}
		printIs(t, 4096, slices.Concat(of("x B1"), texts, of("y H z")), want)
	}
}

func TestP8_1BlocksThatNeverFit(t *testing.T) {
	printAll(t, []row{
		{4096, "[e2 a B1 b H c ]", "a\n  b\n  c"},
		{4096, "[e2 a B1 b E c ]", "a\n  bc"},
		{4096, "[e2 a B1 b|c ]", "a\n  b\nc"},
		{4096, "[e2 a B1 [2 b H ] ]", "a\n  b\n"},
		{4096, "[e2 a B1 b ] H", "a b\n"},
		{4096, "H [e2 a B1 b ]", "a b"},
		{4096, "[e2 E a B1 b ]", "a\n  b"},
		{4096, "[2 a B1 b H c ]", "a b\n  c"},
	})
}

func TestP8_1BlocksWithoutPieces(t *testing.T) {
	for _, begin := range []string{"[0 ]", "[7 ]", "[e7 ]", "[1 [e2 ] [3 ] ]"} {
		printAll(t, []row{
			{1, begin + " a", "a"},
			{1, "a " + begin, "a"},
			{1, "a " + begin + " b", "ab"},
			{3, "a " + begin + " B1 b", "a b"},
			{2, "a " + begin + " B1 b", "a\nb"},
			{3, "a B1 " + begin + " b", "a b"},
			{2, "a B1 " + begin + " b", "a\nb"},
			{2, "a H " + begin + " E b", "a\n\nb"},
			{4, "[e2 a B1 " + begin + " bb ]", "a bb"},
			{3, "[e2 a B1 " + begin + " bb ]", "a\n  bb"},
		})
	}
}

func TestP8_1EvenBlocksInOthers(t *testing.T) {
	printAll(t, []row{
		{8, "[2 aa B1 [e2 b B1 c ] B1 dd ]", "aa b c\n  dd"},
		{5, "[2 aa B1 [e2 b B1 c ] B1 dd ]", "aa\n  b c\n  dd"},
		{4, "[2 aa B1 [e2 b B1 c ] B1 dd ]", "aa\n  b\n    c\n  dd"},
		{7, "[e2 aa B1 [2 b B1 c B1 d ] B1 ee ]", "aa\n  b c d\n  ee"},
		{6, "[e2 aa B1 [2 b B1 c B1 d ] B1 ee ]", "aa\n  b c\n    d\n  ee"},
		{3, "[e1 a [e1 B1 b ] B1 c ]", "a b\n c"},
		{2, "[e1 a [e1 B1 b ] B1 c ]", "a\n  b\n c"},
		{5, "[e1 a [e1 B1 b ] B1 c ]", "a b c"},
		{6, "f( [2 [e0 aa B1 bb ] ] )", "f(aa\n  bb)"},
		{1, "[e2 [e2 a B0 b ] B0 [e2 c B0 d ] ]", "a\n    b\n  c\n    d"},
		{2, "[e2 [e2 a B0 b ] B0 [e2 c B0 d ] ]", "ab\n  c\n    d"},
		{4, "[e2 [e2 a B0 b ] B0 [e2 c B0 d ] ]", "abcd"},
	})
}

// hanging is pieces that hang on a Break and are 4 columns wide, and how they are printed in a line.
var hanging = []struct{ words, line string }{
	{"bbbb", "bbbb"},
	{"bb bb", "bbbb"},
	{"bb S b", "bb b"},
	{"日\xffb", "日\xffb"},
	{"[2 bb ] bb", "bbbb"},
	{"[e2 b B2 b ]", "b  b"},
	{"[2 b B2 b ]", "b  b"},
	{"b [2 [e4 B1 ] b B1 ]", "b b"},
	{"[3 ] bbbb [e3 ]", "bbbb"},
}

// What ends what hangs on a Break, and how the print goes on from there: on, if the Break was blanks or not, alike.
func TestP8_1WhatHangsAsWideAsTheRoom(t *testing.T) {
	for _, h := range hanging {
		for _, c := range []struct {
			ahead, behind string
			indent        string
		}{
			{"aaa", "", ""},
			{"aaa", "B0 zzzzzzzzz", ""},
			{"aaa", "B9 z", ""},
			{"aaa", "H zzzzzzzzz", ""},
			{"aaa", "H", ""},
			{"aaa", "E", ""},
			{"[3 aaa", "]", "   "},
			{"[3 aaa", "] zzzzzzzzz", "   "},
			{"[3 aaa", "] B0 z", "   "},
			{"[3 aaa", "] H z", "   "},
			{"[3 aaa", "B1 zzzzzzzzz ]", "   "},
			{"[3 aaa", "H z ]", "   "},
			{"[3 aaa", "E ]", "   "},
			{"[e1 [1 [1 aaa", "] B0 z ] ]", "   "},
			{"[3 [e9 aaa ]", "]", "   "},
			{"x H aaa", "B1", ""},
		} {
			l := of(c.ahead + " B2 " + h.words + " " + c.behind)
			fits, wider := "aaa  "+h.line, "aaa\n"+c.indent+h.line
			if got := strings.TrimPrefix(printed(t, 9, l), "x\n"); !strings.HasPrefix(got, fits) {
				t.Errorf("Print(9, %s) = %q: it fits", samples.Words(l), got)
			}
			if got := strings.TrimPrefix(printed(t, 8, l), "x\n"); !strings.HasPrefix(got, wider) {
				t.Errorf("Print(8, %s) = %q: it is wider", samples.Words(l), got)
			}
		}
	}
}

func TestP8_1WhatHangsIsWiderThanAnyRoom(t *testing.T) {
	printAll(t, []row{
		{4096, "aaa B2 [2 b H c ]", "aaa\nb\n  c"},
		{4096, "aaa B2 [2 b E c ]", "aaa\nbc"},
		{4096, "aaa B2 [2 [2 E ] ] b", "aaa\n\nb"},
		{4096, "aaa B2 b|c", "aaa\nb\nc"},
		{4096, "aaa B2 b [2 c|d ]", "aaa\nbc\nd"},
		{4096, "aaa B2 b H c|d", "aaa  b\nc\nd"},
		{4096, "aaa B2 b E c|d", "aaa  bc\nd"},
		{4096, "aaa B2 b B1 c|d", "aaa  b\nc\nd"},
		{4096, "[2 aaa B2 b ] c|d", "aaa  bc\nd"},
		{4096, "aaa B2 [2 b B1 c ] d|e", "aaa\nb cd\ne"},
	})
}

func TestP8_1IndentsOfAtMost1000(t *testing.T) {
	for _, c := range []struct {
		begins string
		indent int
	}{
		{"[0", 0},
		{"[1 [0 [2", 3},
		{"[999", 999},
		{"[1000", 1000},
		{"[500 [499", 999},
		{"[500 [500", 1000},
		{"[500 [501", 1000},
		{"[999 [1", 1000},
		{"[999 [2", 1000},
		{"[1000 [1", 1000},
		{"[1000 [1000", 1000},
		{"[e1000 [1000 [e1000 [1000", 1000},
		{"[1000 [0 [1000 [e0", 1000},
		{strings.Repeat("[1 ", 999), 999},
		{strings.Repeat("[1 ", 1000), 1000},
		{strings.Repeat("[1 ", 1001), 1000},
		{strings.Repeat("[7 ", 3000), 1000},
	} {
		ends := strings.Repeat(" ]", strings.Count(c.begins, "["))
		blanks := strings.Repeat(" ", c.indent)
		for _, columns := range []int{1, 10, 4096} {
			printIs(t, columns, of(c.begins+" a H b H c"+ends), "a\n"+blanks+"b\n"+blanks+"c")
			printIs(t, columns, of(c.begins+" a H E b"+ends+" H c"), "a\n\n"+blanks+"b\nc")
		}
	}
	// A block's indent stays its own, whatever stood within it.
	want := "a\n" + strings.Repeat(" ", 600) + "b\n" + strings.Repeat(" ", 1000) + "c\n" + strings.Repeat(" ", 600) + "d\ne"
	printIs(t, 80, of("[600 a H b [600 H c ] H d ] H e"), want)
	// What is cut off of an indent is no part of the room.
	printIs(t, 1004, of("[600 [600 a H b B1 cc ] ]"), "a\n"+strings.Repeat(" ", 1000)+"b cc")
	printIs(t, 1003, of("[600 [600 a H b B1 cc ] ]"), "a\n"+strings.Repeat(" ", 1000)+"b\n"+strings.Repeat(" ", 1000)+"cc")
}

func TestP8_1RoomBelow0(t *testing.T) {
	printAll(t, []row{
		// At the room 0 what has no width fits; below it nothing does.
		{2, "aa B0 H b", "aa\nb"},
		{2, "aa B0 E b", "aab"},
		{1, "aa B0 E b", "aa\n\nb"},
		{2, "aa B0 B0 b", "aa\nb"},
		{1, "aa B0 B0 b", "aa\nb"},
		{2, "aa [e0 B0 ] b", "aab"},
		{1, "aa [e0 B0 ] b", "aa\nb"},
		{2, "aa [0 B0 ] b", "aab"},
		{1, "aa [0 B0 ] b", "aa\nb"},
		{2, "aa B0 \u0301 H", "aa\u0301\n"},
		{1, "aa B0 \u0301 H", "aa\n\u0301\n"},
		{2, "a S S S B0 H b", "a\nb"},
		{2, "[9 a H b B0 c ]", "a\n         b\n         c"},
		{2, "[9 a H [e0 b B0 c ] ]", "a\n         b\n         c"},
		{2, "[9 a H ] [e0 B0 b B0 c ]", "a\n         b\nc"},
		{1, "[1000 a H b S [e0 c B1 d ] ]", "a\n" + strings.Repeat(" ", 1000) + "b c\n" + strings.Repeat(" ", 1000) + "d"},
	})
}

// A block fits or not by the room where it begins, a Break by the room where it stands.
func TestP8_1TheRoomIsAskedWhereItIsNeeded(t *testing.T) {
	printAll(t, []row{
		{6, "aaaa [e2 B0 b B0 c ]", "aaaabc"},
		{6, "aaaaa [e2 B0 b B0 c ]", "aaaaa\n  b\n  c"},
		{6, "aaaaa [2 B0 b B0 c ]", "aaaaab\n  c"},
		{6, "aaaaa [2 B0 bb B0 c ]", "aaaaa\n  bbc"},
		{6, "aaaaa B0 [e2 b B0 c ] B0 d", "aaaaa\nbcd"},
	})
}
