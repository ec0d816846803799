package whole_test

import (
	"slices"
	"strings"
	"testing"

	"colophon/api"
)

// row is a width, a layout and what is printed of it.
type row struct {
	columns int
	words   string
	want    string
}

func printAll(t *testing.T, rows []row) {
	t.Helper()
	for _, c := range rows {
		printIs(t, c.columns, of(c.words), c.want)
	}
}

func TestP8_1TheChaptersExamples(t *testing.T) {
	printAll(t, []row{
		{10, "[2 aaa B1 bbb B1 cc ]", "aaa bbb cc"},
		{10, "[2 aaa B1 bbb B1 ccc ]", "aaa bbb\n  ccc"},
		{10, "[e2 aaa B1 bbb B1 ccc ]", "aaa\n  bbb\n  ccc"},
		{10, "aaaa B1 [2 b B1 ccccc ]", "aaaa\nb ccccc"},
		{10, "[2 aaaaaa B1 bb ] ccccc", "aaaaaa bbccccc"},
		{10, "a S H S b E", "a\nb"},
		{10, "a H E E b", "a\n\nb"},
		{10, "[2 a H b ]", "a\n  b"},
		{10, "[2 {x|yyyyyyyy} B1 z ]", "{x\nyyyyyyyy}\n  z"},
	})
	refused(t, 0, of("E a"), api.ErrArg)
}

func TestP8_1NoPieces(t *testing.T) {
	for _, columns := range []int{1, 80, 4096} {
		printIs(t, columns, nil, "")
		printIs(t, columns, []api.Doc{}, "")
	}
	refused(t, 0, nil, api.ErrArg)
	refused(t, 4097, []api.Doc{}, api.ErrArg)
}

func TestP8_1EachKindAlone(t *testing.T) {
	for _, columns := range []int{1, 2, 4096} {
		printAll(t, []row{
			{columns, "a", "a"},
			{columns, "S", ""},
			{columns, "B0", ""},
			{columns, "B3", ""},
			{columns, "B1000", ""},
			{columns, "H", ""},
			{columns, "E", ""},
			{columns, "[0 ]", ""},
			{columns, "[3 ]", ""},
			{columns, "[e3 ]", ""},
			{columns, "[e3 B1 ]", ""},
			{columns, "[3 H E S B2 ]", ""},
		})
	}
}

func TestP8_1EachKindFirst(t *testing.T) {
	for _, columns := range []int{1, 10, 4096} {
		printAll(t, []row{
			{columns, "a a", "aa"},
			{columns, "S a", "a"},
			{columns, "S S a", "a"},
			{columns, "B0 a", "a"},
			{columns, "B3 a", "a"},
			{columns, "B1000 a", "a"},
			{columns, "H a", "a"},
			{columns, "H H a", "a"},
			{columns, "E a", "a"},
			{columns, "E E a", "a"},
			{columns, "H E a", "a"},
			{columns, "E H E a", "a"},
			{columns, "B1 E a", "a"},
			{columns, "S B1 H E [2 ] a", "a"},
			{columns, "[3 a ]", "a"},
			{columns, "[e3 a ]", "a"},
			{columns, "[3 S a ]", "a"},
			{columns, "[e3 B1 a ]", "a"},
			{columns, "[3 H a ]", "a"},
			{columns, "[3 E a ]", "a"},
			{columns, "[3 H E ] a", "a"},
		})
	}
}

func TestP8_1EachKindLast(t *testing.T) {
	for _, columns := range []int{1, 10, 4096} {
		printAll(t, []row{
			{columns, "a S", "a"},
			{columns, "a S S", "a"},
			{columns, "a B0", "a"},
			{columns, "a H", "a\n"},
			{columns, "a H H", "a\n"},
			{columns, "a E", "a"},
			{columns, "a E E", "a"},
			{columns, "a H E", "a\n\n"},
			{columns, "a H E E", "a\n\n"},
			{columns, "a H E H E", "a\n\n"},
			{columns, "a H S", "a\n"},
			{columns, "a H B1", "a\n"},
			{columns, "a [2 ]", "a"},
			{columns, "[2 a ]", "a"},
			{columns, "[2 a H ]", "a\n"},
			{columns, "a [5 H ]", "a\n"},
			{columns, "a S H", "a\n"},
			{columns, "a|b", "a\nb"},
		})
	}
	printAll(t, []row{
		{1, "a B1", "a\n"},
		{2, "a B1", "a"},
		{1, "a B1 E", "a\n\n"},
		{2, "a B1 E", "a"},
	})
}

func TestP8_1WhereALineBegins(t *testing.T) {
	for _, columns := range []int{1, 10, 4096} {
		printAll(t, []row{
			{columns, "a H b", "a\nb"},
			{columns, "a H S b", "a\nb"},
			{columns, "a H S S S b", "a\nb"},
			{columns, "a H B0 b", "a\nb"},
			{columns, "a H B3 b", "a\nb"},
			{columns, "a H B1000 b", "a\nb"},
			{columns, "a H H b", "a\nb"},
			{columns, "a H E b", "a\n\nb"},
			{columns, "a H [2 ] b", "a\nb"},
			{columns, "a H [2 b ]", "a\nb"},
			{columns, "a H [e2 B1 b ]", "a\nb"},
			{columns, "a H [2 H b ]", "a\nb"},
			{columns, "[2 a H ] b", "a\n  b"},
			{columns, "[2 a H ] H b", "a\n  b"},
			{columns, "[2 a H S B3 b ]", "a\n  b"},
			{columns, "a [4 H ] [2 H b ]", "a\n    b"},
		})
	}
}

func TestP8_1BlanksAndBreaksAheadOfATextAndOfTheEnd(t *testing.T) {
	wide := strings.Repeat(" ", 1000)
	printAll(t, []row{
		{1, "a S b", "a b"},
		{1, "a S S b", "a  b"},
		{1, "a S H b", "a\nb"},
		{1, "a B0 H b", "a\nb"},
		{1, "a B1 H b", "a\nb"},
		{1, "a B1000 H b", "a\nb"},
		{4096, "a B0 H b", "a\nb"},
		{4096, "a B1 H b", "a\nb"},
		{4096, "a B1000 H b", "a\nb"},
		{4096, "a B1000 S B1000 H b", "a\nb"},
		{4096, "a B1000", "a"},
		{4096, "a S B1000 S", "a"},
		{1, "a B1000", "a\n"},
		{1001, "a B1000", "a"},
		{1000, "a B1000", "a\n"},
		{1, "a B0 b", "a\nb"},
		{2, "a B0 b", "ab"},
		{2, "a B1 b", "a\nb"},
		{3, "a B1 b", "a b"},
		{1001, "a B1000 b", "a\nb"},
		{1002, "a B1000 b", "a" + wide + "b"},
		{3003, "a B1000 S B1000 S B1000 b", "a\nb"},
		{3004, "a B1000 S B1000 S B1000 b", "a" + wide + " " + wide + " " + wide + "b"},
		{4, "a S B0 S b", "a  b"},
		{3, "a S B0 S b", "a\nb"},
		{4096, "a S B2 S S B0 b", "a     b"},
		{4, "a S S S B0 b", "a\nb"},
		{5, "a S S S B0 b", "a   b"},
	})
}

func TestP8_1HardEmptyAndBreakWhereNoLineBegins(t *testing.T) {
	for _, columns := range []int{3, 10, 4096} {
		printAll(t, []row{
			{columns, "a H b", "a\nb"},
			{columns, "a E b", "ab"},
			{columns, "a S E b", "a b"},
			{columns, "a E H b", "a\nb"},
			{columns, "a E H E b", "a\n\nb"},
			{columns, "a B1 E b", "a b"},
			{columns, "a B1 H b", "a\nb"},
			{columns, "a B1 b", "a b"},
			{columns, "[2 a E b H c ]", "ab\n  c"},
		})
	}
	printAll(t, []row{
		{3, "aaa B1 E b", "aaa\n\nb"},
		{3, "aa B1 E b", "aa b"},
		{2, "aa B1 H b", "aa\nb"},
		{2, "aaa B0 E b", "aaa\n\nb"},
	})
}

func TestP8_1EmptyLines(t *testing.T) {
	for _, columns := range []int{1, 10, 4096} {
		printAll(t, []row{
			{columns, "E E a H E b", "a\n\nb"},
			{columns, "a H E E b", "a\n\nb"},
			{columns, "a H E H b", "a\n\nb"},
			{columns, "a H E H E b", "a\n\nb"},
			{columns, "a H E S E b", "a\n\nb"},
			{columns, "a H E B1 E b", "a\n\nb"},
			{columns, "a H E [2 E ] E b", "a\n\nb"},
			{columns, "a H S E b", "a\n\nb"},
			{columns, "a H B1 E b", "a\n\nb"},
			{columns, "a H H E b", "a\n\nb"},
			{columns, "a H [2 ] E b", "a\n\nb"},
			{columns, "a H [2 E ] b", "a\n\nb"},
			{columns, "[2 a H ] E b", "a\n\n  b"},
			{columns, "[2 a H E b H c ]", "a\n\n  b\n  c"},
			{columns, "[2 a H E ] H b H c", "a\n\n  b\nc"},
			{columns, "a [2 H ] [4 E H b ]", "a\n\n  b"},
			{columns, "a H E b H E c", "a\n\nb\n\nc"},
			{columns, "a H E b E H E c", "a\n\nb\n\nc"},
			{columns, "a|b E c H E d", "a\nbc\n\nd"},
		})
	}
	printAll(t, []row{
		{1, "[e2 a B1 E b ]", "a\n\n  b"},
		{1, "[2 a B1 E b ]", "a\n\n  b"},
		{10, "[2 a B1 E b ]", "a b"},
		{10, "[e2 a B1 E b ]", "a\n\n  b"},
	})
}

func TestP8_1TextsWithLineEnds(t *testing.T) {
	for _, columns := range []int{4, 5, 4096} {
		printAll(t, []row{
			{columns, "{a|b}", "{a\nb}"},
			{columns, "{a|b|c}", "{a\nb\nc}"},
			{columns, "{||}", "{\n\n}"},
			{columns, "{_|_}", "{ \n }"},
			{columns, "{|} E b", "{\n}b"},
			{columns, "{|} H b", "{\n}\nb"},
			{columns, "{|} S b", "{\n} b"},
			{columns, "x B1 {|}", "x\n{\n}"},
			{columns, "x S {|}", "x {\n}"},
			{columns, "[2 x H {|} ]", "x\n  {\n}"},
			{columns, "[2 x B1 {|} ]", "x\n  {\n}"},
			{columns, "[e2 x B1 {|} B1 y ]", "x\n  {\n}\n  y"},
			{columns, "[2 x B1 y B1 {|} ]", "x y\n  {\n}"},
			{columns, "x B1 [2 y {|} ]", "x\ny{\n}"},
			{columns, "{|} B1 y", "{\n} y"},
		})
	}
	printAll(t, []row{
		{10, "{aaaaaaaaa|b} B1 cccccc B1 d", "{aaaaaaaaa\nb} cccccc\nd"},
		{11, "{aaaaaaaaa|b} B1 cccccc B1 d", "{aaaaaaaaa\nb} cccccc d"},
		{6, "{a|bbbbbbb|c} S dd B1 e", "{a\nbbbbbbb\nc} dd\ne"},
		{7, "{a|bbbbbbb|c} S dd B1 e", "{a\nbbbbbbb\nc} dd e"},
		{10, "aaaaaaaa {|} B1 bbbbbbbb", "aaaaaaaa{\n} bbbbbbbb"},
		{9, "aaaaaaaa {|} B1 bbbbbbbb", "aaaaaaaa{\n}\nbbbbbbbb"},
		{10, "[8 a H {|} B1 bbbbbbbb ]", "a\n        {\n} bbbbbbbb"},
		{4, "{|日} [e1 B0 b ]", "{\n日}b"},
		{3, "{|日} [e1 B0 b ]", "{\n日}\n b"},
		{7, "{|日\u0301\xff} S B1 c", "{\n日\u0301\xff}  c"},
		{6, "{|日\u0301\xff} S B1 c", "{\n日\u0301\xff}\nc"},
	})
}

func TestP8_1CharactersOfEveryWidth(t *testing.T) {
	printAll(t, []row{
		{6, "日本 B1 a", "日本 a"},
		{5, "日本 B1 a", "日本\na"},
		{6, "a B1 日本", "a 日本"},
		{5, "a B1 日本", "a\n日本"},
		{3, "e\u0301 B1 a", "e\u0301 a"},
		{2, "e\u0301 B1 a", "e\u0301\na"},
		{1, "a B0 \u0301", "a\u0301"},
		{1, "\u0301 B0 a", "\u0301a"},
		{1, "\u0301 H E b", "\u0301\n\nb"},
		{4, "\xff\xfe B1 a", "\xff\xfe a"},
		{3, "\xff\xfe B1 a", "\xff\xfe\na"},
		{4, "a B1 \xe6\x97", "a \xe6\x97"},
		{3, "a B1 \xe6\x97", "a\n\xe6\x97"},
		{6, "[e2 日 B1 e\u0301 B1 \xff ]", "日 e\u0301 \xff"},
		{5, "[e2 日 B1 e\u0301 B1 \xff ]", "日\n  e\u0301\n  \xff"},
	})
	l := []api.Doc{{Kind: api.Text, Text: "\t"}, {Kind: api.Break, Blanks: 1}, {Kind: api.Text, Text: "\r"}}
	printIs(t, 3, l, "\t \r")
	printIs(t, 2, l, "\t\n\r")
}

// Each Text is as wide as it is by itself, though with its neighbour it is another character.
func TestP8_1EachTextByItself(t *testing.T) {
	l := []api.Doc{{Kind: api.Text, Text: "\xe6"}, {Kind: api.Text, Text: "\x97\xa5"}, {Kind: api.Break}, {Kind: api.Text, Text: "ab"}}
	printIs(t, 4, l, "\xe6\x97\xa5\nab")
	printIs(t, 5, l, "\xe6\x97\xa5ab")
	l = slices.Concat(of("[e0 x B0"), l[:2], of("]"))
	printIs(t, 3, l, "x\n\xe6\x97\xa5")
	printIs(t, 4, l, "x\xe6\x97\xa5")
	l = slices.Concat(of("x B0"), l[3:5])
	printIs(t, 3, l, "x\n\xe6\x97\xa5")
	printIs(t, 4, l, "x\xe6\x97\xa5")
}
