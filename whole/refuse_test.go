package whole_test

import (
	"math"
	"slices"
	"strings"
	"testing"

	"colophon/api"
	"colophon/doc"
	"colophon/samples"
	"colophon/whole"
)

func TestP8_1Widths(t *testing.T) {
	for _, columns := range []int{math.MinInt, -4096, -1, 0, 4097, 1 << 32, 1<<32 + 1, math.MaxInt} {
		for _, words := range []string{"", "a", "]", "[2", "B1001"} {
			refused(t, columns, of(words), api.ErrArg)
		}
	}
	printAll(t, []row{
		{1, "[e2 a B1 b ] B1 c", "a\n  b\nc"},
		{4096, "[e2 a B1 b ] B1 c", "a b c"},
	})
	for _, columns := range []int{1, 2, 4095, 4096} {
		left := strings.Repeat("a", 2048)
		l := []api.Doc{{Kind: api.Text, Text: left}, {Kind: api.Break}, {Kind: api.Text, Text: left}}
		want := left + "\n" + left
		if columns == 4096 {
			want = left + left
		}
		printIs(t, columns, l, want)
		refused(t, columns, of("]"), api.ErrDocForm)
	}
}

func TestP8_1PiecesThatAreNotRight(t *testing.T) {
	for _, d := range samples.WrongPieces() {
		for _, columns := range []int{1, 80, 4096} {
			refused(t, columns, []api.Doc{d}, api.ErrDocForm)
			for _, ahead := range []string{"", "a", "[2", "[2 a B1", "a H", "[2 ]"} {
				for _, behind := range []string{"", "]", "] ]", "a", "H a ]"} {
					refused(t, columns, slices.Concat(of(ahead), []api.Doc{d}, of(behind)), api.ErrDocForm)
				}
			}
		}
		for _, columns := range []int{-1, 0, 4097} {
			refused(t, columns, []api.Doc{d}, api.ErrArg)
		}
	}
}

func TestP8_1BeginsAndEnds(t *testing.T) {
	for _, words := range []string{
		"]", "[2", "[e2", "] [2", "a ] [2", "[2 a", "a [2", "[2 a ] ]", "[2 [2 a ]", "[2 ] ] [2", "[2 ] [2",
		"] a", "a ]", "[2 [e2 ] ] ]", "[e2 [2 [2 ] ]", "a H ] b", "B1 ] [2 B1",
	} {
		for _, columns := range []int{1, 10, 4096} {
			refused(t, columns, of(words), api.ErrDocForm)
		}
		refused(t, 0, of(words), api.ErrArg)
		refused(t, 4097, of(words), api.ErrArg)
	}
}

// Which layouts may be is chapter 7's to say.
func TestP8_1AllShortLayoutsRightAndWrong(t *testing.T) {
	good, bad := 0, 0
	for words := range samples.Texts([]string{"a ", "B1 ", "[2 ", "[e1001 ", "] ", "H "}, 6) {
		l := of(words)
		want, _ := doc.Check(l)
		if s, e := whole.Print(3, l); e != want || e != api.OK && s != "" {
			t.Fatalf("Print(3, %s) = %q, %d, not %d", samples.Words(l), s, e, want)
		}
		if want == api.OK {
			good++
		} else {
			bad++
		}
	}
	if good < 1000 || bad < 1000 {
		t.Errorf("%d layouts may be, %d may not", good, bad)
	}
}

func TestP8_1PiecesAtTheirLimits(t *testing.T) {
	great := strings.Repeat("a", 65535)
	text := api.Doc{Kind: api.Text, Text: great}
	for _, columns := range []int{1, 4096} {
		printIs(t, columns, []api.Doc{text}, great)
		printIs(t, columns, slices.Concat(of("[e2 a B0"), []api.Doc{text}, of("B0 b ]")), "a\n  "+great+"\n  b")
		printIs(t, columns, of("[1000 a H b ]"), "a\n"+strings.Repeat(" ", 1000)+"b")
	}
	printIs(t, 4096, of("a B1000 b"), "a"+strings.Repeat(" ", 1000)+"b")
}

func TestP8_1MorePiecesThanMaxDocs(t *testing.T) {
	const times = 2097152/4 + 1
	l := slices.Concat(of("[2"), slices.Repeat(of("a B1 [e1 ]"), times), of("]"))
	if len(l) <= api.MaxDocs {
		t.Fatalf("%d pieces are too few", len(l))
	}
	printIs(t, 1, l, strings.Repeat("a\n  ", times-1)+"a\n")
	// The last Break has room, but its blank has no Text behind it.
	printIs(t, 7, l, "a a a a\n"+strings.Repeat("  a a a\n", (times-4)/3)+"  a a")
	for _, d := range []api.Doc{{}, samples.Piece("]"), samples.Piece("[2"), samples.Piece("B1001")} {
		refused(t, 7, append(slices.Clone(l), d), api.ErrDocForm)
		refused(t, 4097, append(slices.Clone(l), d), api.ErrArg)
	}
	refused(t, 7, l[1:], api.ErrDocForm)
	refused(t, 7, l[:len(l)-1], api.ErrDocForm)
	l[len(l)/2].Indent = -1
	refused(t, 7, l, api.ErrDocForm)
}
