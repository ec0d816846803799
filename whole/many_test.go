package whole_test

import (
	"math/rand/v2"
	"slices"
	"strings"
	"testing"

	"colophon/api"
	"colophon/plain"
	"colophon/samples"
)

func TestP8_1ManyBlocksWithinOneAnother(t *testing.T) {
	for _, deep := range []int{1, 4, 1000, 65536, 1 << 18} {
		ends := slices.Repeat(of("]"), deep)
		for _, c := range []struct {
			columns               int
			begin, middle, behind string
			want                  string
		}{
			{3, "[0", "a B1 b", "B1 c", "a b\nc"},
			{2, "[0", "a B1 b", "B1 c", "a\nb\nc"},
			{3, "[e0", "a B1 b", "B1 c", "a b\nc"},
			{2, "[e0", "a B1 b", "B1 c", "a\nb\nc"},
			{3, "[9", "a H b", "B1 c", "a\n" + strings.Repeat(" ", min(9*deep, 1000)) + "b\nc"},
		} {
			printIs(t, c.columns, slices.Concat(slices.Repeat(of(c.begin), deep), of(c.middle), ends, of(c.behind)), c.want)
		}
		last := min(deep, 4)
		want := strings.Repeat("a\n", deep-last) + strings.Repeat("a", last) + "b"
		printIs(t, 5, slices.Concat(slices.Repeat(of("[e0 a B0"), deep), of("b"), ends), want)
		printIs(t, 5, slices.Concat(slices.Repeat(of("[0 a B0"), deep), of("b"), ends), want)
		printIs(t, 5, slices.Concat(slices.Repeat(of("[e0"), deep), of("a"), slices.Repeat(of("B0 ]"), deep), of("b")), "ab")
	}
}

func TestP8_1LongLayouts(t *testing.T) {
	const times = 300000
	line := strings.Repeat("a ", 40)
	line = line[:79] + "\n"
	printIs(t, 80, slices.Repeat(of("a B1"), times), strings.Repeat(line, times/40-1)+line[:79])
	printIs(t, 80, slices.Repeat(of("a H E"), times), strings.Repeat("a\n\n", times))
	printIs(t, 80, slices.Repeat(of("[e2 a B1 b ] H"), times), strings.Repeat("a b\n", times))
	printIs(t, 2, slices.Repeat(of("[e2 a B1 b ] H"), times), strings.Repeat("a\n  b\n", times))
	printIs(t, 1, slices.Concat(of("[2"), slices.Repeat(of("a [e2 B1 ]"), times), of("]")), strings.Repeat("a\n    ", times-1)+"a\n")
	// What hangs on the first Break is all the rest; it is not looked through again for each piece.
	printIs(t, 80, slices.Concat(of("a B1 [e0"), slices.Repeat(of("b B1"), times), of("]")), "a\n"+strings.Repeat("b\n", times))
	great := api.Doc{Kind: api.Text, Text: strings.Repeat("a", 65535)}
	l := slices.Concat(of("x B0 [e0"), slices.Repeat([]api.Doc{great}, 2000), of("B0 b ]"))
	printIs(t, 4096, l, "x\n"+strings.Repeat(great.Text, 2000)+"\nb")
}

// The pieces of all kinds, in all short layouts that may be, at all small widths.
func TestP8_1AllShortLayouts(t *testing.T) {
	for _, c := range []struct {
		words string
		most  int
		upTo  int
	}{
		{"a bb S B0 B1 H E [0 [1 [e2 ] a|bb", 5, 6},
		{"aa S B1 H E [1 [e1 ]", 6, 5},
		{"a B1 E [1 [e1 ]", 8, 5},
		{"a B0 [1 [e2 ]", 9, 4},
		{"日 \u0301 \xff B0 B2 [e1 ] a_|\xff日", 6, 4},
		{"a B2 H [e1 ]", 9, 4},
	} {
		met := 0
		for l := range samples.Layouts(c.words, c.most) {
			met++
			for columns := 1; columns <= c.upTo; columns++ {
				printIs(t, columns, l, plain.Print(columns, l))
			}
			if t.Failed() {
				t.FailNow()
			}
		}
		if met < 10000 {
			t.Errorf("%q: only %d layouts", c.words, met)
		}
	}
}

func TestP8_1SomeGreaterLayouts(t *testing.T) {
	r := rand.New(rand.NewPCG(8, 1))
	for _, words := range []string{
		"a bb ccc S B0 B1 B1 B3 H E [0 [1 [2 [e0 [e2 [e3 ] a|bb 日 \u0301 \xff",
		"a bb ccc dddd B1 B1 B1 [2 [2 [e2 [e2 ]",
		"a B1 B1 B1000 S [1 [400 [e700 [1000 ] ] ] H E x|y",
	} {
		for range 1500 {
			l := samples.SomeLayout(r.IntN, words, r.IntN(80))
			for _, columns := range []int{1, 2, 3, 5, 8, 13, 21, 40, 80, 1000, 1400, 4096} {
				printIs(t, columns, l, plain.Print(columns, l))
			}
			if t.Failed() {
				t.FailNow()
			}
		}
	}
}
