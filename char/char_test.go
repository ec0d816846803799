package char_test

import (
	"math"
	"slices"
	"strings"
	"testing"

	"colophon/char"
)

func nextOf(s string, at int) character {
	point, size, good := char.Next(s, at)
	return character{point, size, good}
}

func lastOf(s string, at int) character {
	point, size, good := char.Last(s, at)
	return character{point, size, good}
}

var bad = character{0xfffd, 1, false}

// someTexts are the texts that every call is tried at by hand: the least and the greatest character of each row of the
// table, and what is just beside them.
var someTexts = []struct {
	s     string
	first character
	count int
	valid bool
	whole int
}{
	{"a", character{0x61, 1, true}, 1, true, 1},
	{"\x00", character{0, 1, true}, 1, true, 1},
	{"\x7f", character{0x7f, 1, true}, 1, true, 1},
	{"\x80", bad, 1, false, 1},
	{"\xbf", bad, 1, false, 1},
	{"\xc0\x80", bad, 2, false, 2},
	{"\xc1\xbf", bad, 2, false, 2},
	{"\xc2", bad, 1, false, 0},
	{"\xc2\x7f", bad, 2, false, 2},
	{"\xc2\x80", character{0x80, 2, true}, 1, true, 2},
	{"\xc3\xa9", character{0xe9, 2, true}, 1, true, 2},
	{"\xdf\xbf", character{0x7ff, 2, true}, 1, true, 2},
	{"\xdf\xc0", bad, 2, false, 2},
	{"\xe0", bad, 1, false, 0},
	{"\xe0\x9f", bad, 2, false, 2},
	{"\xe0\x9f\xbf", bad, 3, false, 3},
	{"\xe0\xa0", bad, 2, false, 0},
	{"\xe0\xa0\x80", character{0x800, 3, true}, 1, true, 3},
	{"\xe2\x82\xac", character{0x20ac, 3, true}, 1, true, 3},
	{"\xec\xbf\xbf", character{0xcfff, 3, true}, 1, true, 3},
	{"\xed", bad, 1, false, 0},
	{"\xed\x9f\xbf", character{0xd7ff, 3, true}, 1, true, 3},
	{"\xed\x9f", bad, 2, false, 0},
	{"\xed\xa0", bad, 2, false, 2},
	{"\xed\xa0\x80", bad, 3, false, 3},
	{"\xed\xbf\xbf", bad, 3, false, 3},
	{"\xee\x80\x80", character{0xe000, 3, true}, 1, true, 3},
	{"\xef\xbf", bad, 2, false, 0},
	{"\xef\xbf\xbd", character{0xfffd, 3, true}, 1, true, 3},
	{"\xef\xbf\xbf", character{0xffff, 3, true}, 1, true, 3},
	{"\xf0", bad, 1, false, 0},
	{"\xf0\x8f", bad, 2, false, 2},
	{"\xf0\x8f\xbf\xbf", bad, 4, false, 4},
	{"\xf0\x90", bad, 2, false, 0},
	{"\xf0\x90\x80", bad, 3, false, 0},
	{"\xf0\x90\x80\x7f", bad, 4, false, 4},
	{"\xf0\x90\x80\x80", character{0x10000, 4, true}, 1, true, 4},
	{"\xf3\xbf\xbf\xbf", character{0xfffff, 4, true}, 1, true, 4},
	{"\xf4", bad, 1, false, 0},
	{"\xf4\x8f\xbf\xbf", character{0x10ffff, 4, true}, 1, true, 4},
	{"\xf4\x8f\xbf", bad, 3, false, 0},
	{"\xf4\x90", bad, 2, false, 2},
	{"\xf4\x90\x80\x80", bad, 4, false, 4},
	{"\xf5", bad, 1, false, 1},
	{"\xf5\x80\x80\x80", bad, 4, false, 4},
	{"\xff", bad, 1, false, 1},
}

func TestP1_1NextAtEdgesOfTheTable(t *testing.T) {
	for _, x := range someTexts {
		if got := nextOf(x.s, 0); got != x.first {
			t.Errorf("Next(%x, 0) = %v, want %v", x.s, got, x.first)
		}
	}
}

func TestP1_1NextBeginsWhereItIsAsked(t *testing.T) {
	s := "a\xe2\x82\xac\xc3b"
	want := []character{{0x61, 1, true}, {0x20ac, 3, true}, bad, bad, bad, {0x62, 1, true}}
	for at, w := range want {
		if got := nextOf(s, at); got != w {
			t.Errorf("Next(%x, %d) = %v, want %v", s, at, got, w)
		}
	}
}

func TestP1_1NextAtWrongPlaces(t *testing.T) {
	for _, s := range []string{"", "a", "\xc3\xa9", "\x80"} {
		for _, at := range []int{-1, -2, math.MinInt, len(s), len(s) + 1, math.MaxInt} {
			if got := nextOf(s, at); got != (character{}) {
				t.Errorf("Next(%x, %d) = %v", s, at, got)
			}
		}
	}
}

func TestP1_2LastAtEdgesOfTheTable(t *testing.T) {
	for _, x := range someTexts {
		want := x.first
		if x.count > 1 {
			want = charactersOf(x.s)[x.count-1]
		}
		for _, ahead := range []string{"", "a", "\x80", "\xf0", "\xc3\xa9", "\xf4\x8f\xbf\xbf", "\xe2\x82"} {
			s := ahead + x.s
			if isLater(x.s[0]) && ahead != "" {
				continue // it may end what stands ahead
			}
			if got := lastOf(s, len(s)); got != want {
				t.Errorf("Last(%x, %d) = %v, want %v", s, len(s), got, want)
			}
		}
	}
}

func TestP1_2LastEndsWhereItIsAsked(t *testing.T) {
	for _, x := range []struct {
		s    string
		want []character
	}{
		{"a\xc3\xa9", []character{{}, {0x61, 1, true}, bad, {0xe9, 2, true}, {}}},
		{"\xf0\x9f\x98\x80\x80", []character{{}, bad, bad, bad, {0x1f600, 4, true}, bad, {}}},
		{"\xef\xbf\xbd", []character{{}, bad, bad, {0xfffd, 3, true}, {}}},
		{"\xe2\xc3\xa9", []character{{}, bad, bad, {0xe9, 2, true}, {}}},
		{"\x80\x80\x80\x80\x80", []character{{}, bad, bad, bad, bad, bad, {}}},
	} {
		for at, w := range x.want {
			if got := lastOf(x.s, at); got != w {
				t.Errorf("Last(%x, %d) = %v, want %v", x.s, at, got, w)
			}
		}
	}
}

func TestP1_2LastAtWrongPlaces(t *testing.T) {
	for _, s := range []string{"", "a", "\xc3\xa9", "\x80"} {
		for _, at := range []int{0, -1, math.MinInt, len(s) + 1, math.MaxInt} {
			if got := lastOf(s, at); got != (character{}) {
				t.Errorf("Last(%x, %d) = %v", s, at, got)
			}
		}
	}
}

func TestP1_3Lists(t *testing.T) {
	for _, x := range []struct {
		s              string
		points, places []int
		valid          bool
	}{
		{"", nil, nil, true},
		{"ab", []int{0x61, 0x62}, []int{0, 1}, true},
		{"a\xc3\xa9\xe2\x82\xac\xf0\x9f\x98\x80z", []int{0x61, 0xe9, 0x20ac, 0x1f600, 0x7a}, []int{0, 1, 3, 6, 10}, true},
		{"a\xe2\x82\xf0\x9f\x98\x80", []int{0x61, 0xfffd, 0xfffd, 0x1f600}, []int{0, 1, 2, 3}, false},
		{"\xef\xbf\xbd\xef\xbf", []int{0xfffd, 0xfffd, 0xfffd}, []int{0, 3, 4}, false},
		{"\xef\xbf\xbd\xef\xbf\xbd", []int{0xfffd, 0xfffd}, []int{0, 3}, true},
		{"\xc3\xc3\xa9\xa9", []int{0xfffd, 0xe9, 0xfffd}, []int{0, 1, 3}, false},
		{"\x00\n\r\x00", []int{0, 10, 13, 0}, []int{0, 1, 2, 3}, true},
	} {
		if got := char.Points(x.s); !slices.Equal(got, x.points) {
			t.Errorf("Points(%x) = %x, want %x", x.s, got, x.points)
		}
		if got := char.Places(x.s); !slices.Equal(got, x.places) {
			t.Errorf("Places(%x) = %d, want %d", x.s, got, x.places)
		}
		if got := char.Count(x.s); got != len(x.points) {
			t.Errorf("Count(%x) = %d, want %d", x.s, got, len(x.points))
		}
		if got := char.Valid(x.s); got != x.valid {
			t.Errorf("Valid(%x) = %v", x.s, got)
		}
	}
}

func TestP1_3CountAndValidAtEdgesOfTheTable(t *testing.T) {
	for _, x := range someTexts {
		if got := char.Count(x.s); got != x.count {
			t.Errorf("Count(%x) = %d, want %d", x.s, got, x.count)
		}
		if got := char.Valid(x.s); got != x.valid {
			t.Errorf("Valid(%x) = %v", x.s, got)
		}
	}
}

func TestP1_4TextOfNumbers(t *testing.T) {
	const replacement = "\xef\xbf\xbd"
	for _, x := range []struct {
		n    int
		want string
	}{
		{0, "\x00"}, {0x61, "a"}, {0x7f, "\x7f"}, {0x80, "\xc2\x80"}, {0xe9, "\xc3\xa9"}, {0x7ff, "\xdf\xbf"},
		{0x800, "\xe0\xa0\x80"}, {0xd7ff, "\xed\x9f\xbf"}, {0xe000, "\xee\x80\x80"}, {0xfffd, replacement},
		{0xffff, "\xef\xbf\xbf"}, {0x10000, "\xf0\x90\x80\x80"}, {0x10ffff, "\xf4\x8f\xbf\xbf"},
		{0xd800, replacement}, {0xdbff, replacement}, {0xdc00, replacement}, {0xdfff, replacement},
		{0x110000, replacement}, {-1, replacement}, {math.MinInt, replacement}, {math.MaxInt, replacement},
		{math.MaxInt32, replacement}, {1<<32 + 0x61, replacement}, {-1<<32 + 0x61, replacement},
		{-1<<63 + 0x61, replacement},
	} {
		if got := char.Text([]int{x.n}); got != x.want {
			t.Errorf("Text(%x) = %x, want %x", x.n, got, x.want)
		}
		if got := char.Text([]int{0x61, x.n, 0x62}); got != "a"+x.want+"b" {
			t.Errorf("Text(61 %x 62) = %x", x.n, got)
		}
	}
}

func TestP1_4TextOfNoNumbers(t *testing.T) {
	if char.Text(nil) != "" || char.Text([]int{}) != "" {
		t.Error("Text of no numbers is not empty")
	}
}

// Rule R2: a list that is handed in is not written into, nor its spare room.
func TestP1_4TextLeavesItsList(t *testing.T) {
	room := []int{0x61, -1, 0xd800, 7, 8}
	char.Text(room[:3])
	if !slices.Equal(room, []int{0x61, -1, 0xd800, 7, 8}) {
		t.Errorf("Text wrote into its list: %x", room)
	}
}

// Rule R2: lists that come out are new memory.
func TestP1_3ListsAreNew(t *testing.T) {
	for _, call := range []func(string) []int{char.Points, char.Places} {
		a, b := call("ab"), call("ab")
		a[0], a[1] = -5, -6
		if b[0] == -5 || b[1] == -6 || slices.Equal(a, call("ab")) {
			t.Error("two answers share memory")
		}
	}
}

func TestP1_5WholeAtEdgesOfTheTable(t *testing.T) {
	for _, x := range someTexts {
		if got := char.Whole(x.s); got != x.whole {
			t.Errorf("Whole(%x) = %d, want %d", x.s, got, x.whole)
		}
		for _, ahead := range []string{"a", "\xff", "\xc3", "\xf0\x9f\x98", "\xf4\x8f\xbf\xbf"} {
			if isLater(x.s[0]) {
				continue // it may go on with what stands ahead
			}
			if got := char.Whole(ahead + x.s); got != len(ahead)+x.whole {
				t.Errorf("Whole(%x) = %d, want %d", ahead+x.s, got, len(ahead)+x.whole)
			}
		}
	}
}

func TestP1_5WholeTakesTheOpenEndAlone(t *testing.T) {
	for s, want := range map[string]int{
		"":                             0,
		"abc":                          3,
		"a\xc3":                        1,
		"a\xe0":                        1,
		"a\xe0\x80":                    3,
		"a\xf0\x9f\x98":                1,
		"a\xf0\x9f\x98\x80":            5,
		"a\xf0\x9f\x98\x80\x80":        6,
		"\xc3\xc3":                     1,
		"\xe2\x82\xe2\x82":             2,
		"\xf0\x9f\x98\xf0\x9f\x98":     3,
		"\xc3\xa9\xa9":                 3,
		"\x80\x80\x80\x80":             4,
		"\xf0\x9f\x98\x61":             4,
		strings.Repeat("\xc3", 100000): 99999,
	} {
		if got := char.Whole(s); got != want {
			t.Errorf("Whole(%x) = %d, want %d", s, got, want)
		}
	}
}
