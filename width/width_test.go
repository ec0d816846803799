package width_test

import (
	"math"
	"strings"
	"testing"

	"colophon/char"
	"colophon/width"
)

func TestP2_1Examples(t *testing.T) {
	for _, c := range []struct{ point, want int }{
		{0x61, 1}, {0x4e00, 2}, {0x301, 0}, {0x0a, 1}, {0xfffd, 1}, {-1, 1}, {0x1f600, 2}, {0xa4d0, 1}, {0x303f, 1},
	} {
		if n := width.Of(c.point); n != c.want {
			t.Errorf("Of(%x) = %d, not %d", c.point, n, c.want)
		}
	}
}

func TestP2_1EdgesOfTheSpans(t *testing.T) {
	for _, c := range []struct{ first, last, columns, ahead, behind int }{
		{0x1100, 0x115f, 2, 1, 1},
		{0x2e80, 0x303e, 2, 1, 1},
		{0x3041, 0xa4cf, 2, 1, 1},
		{0xac00, 0xd7a3, 2, 1, 1},
		{0xf900, 0xfaff, 2, 1, 1},
		{0xfe30, 0xfe6f, 2, 0, 1},
		{0xff00, 0xff60, 2, 1, 1},
		{0xffe0, 0xffe6, 2, 1, 1},
		{0x1f300, 0x1f64f, 2, 1, 1},
		{0x1f900, 0x1f9ff, 2, 1, 1},
		{0x20000, 0x3fffd, 2, 1, 1},
		{0x300, 0x36f, 0, 1, 1},
		{0x200b, 0x200f, 0, 1, 1},
		{0x20d0, 0x20ff, 0, 1, 1},
		{0xfe00, 0xfe0f, 0, 1, 1},
		{0xfe20, 0xfe2f, 0, 1, 2},
	} {
		got := [4]int{width.Of(c.first - 1), width.Of(c.first), width.Of(c.last), width.Of(c.last + 1)}
		want := [4]int{c.ahead, c.columns, c.columns, c.behind}
		if got != want {
			t.Errorf("%x to %x, and beside: %v, not %v", c.first, c.last, got, want)
		}
	}
}

func TestP2_1EveryPoint(t *testing.T) {
	o := oracle(columnsOf(t))
	for point := 0; point <= 0x10ffff; point++ {
		if n := width.Of(point); n != o.of(point) {
			t.Fatalf("Of(%x) = %d, not %d", point, n, o.of(point))
		}
	}
}

// Numbers that are no points, some of which would be points of 0 or 2 columns if bits of them were left out.
func TestP2_1NoPoints(t *testing.T) {
	for _, n := range []int{
		-1, -0x301, -0x4e00, 0xd800, 0xdbff, 0xdc00, 0xdfff, 0x110000, 0x110301, 0x120000, 0x204e00,
		math.MinInt, math.MinInt + 0x301, math.MinInt + 0x4e00, math.MaxInt, math.MinInt32, math.MaxInt32,
		1<<32 + 0x301, 1<<32 + 0x4e00, 1<<31 + 0x4e00, -(1 << 32) + 0x4e00, -(1 << 16) + 0x4e00, 1<<40 + 0x1100,
	} {
		if got := width.Of(n); got != 1 {
			t.Errorf("Of(%x) = %d, not 1", n, got)
		}
	}
}

func TestP2_2Texts(t *testing.T) {
	for _, c := range []struct {
		s    string
		want int
	}{
		{"a", 1}, {"e\xcc\x81", 1}, {"\u4e00a", 3}, {"a\xff\xff", 3}, // the document's
		{"", 0},
		{"\x00\t\r\n\x7f", 5},
		{"\u0301", 0},
		{"\u0301\u200b\ufe0f", 0},
		{"\u65e5\u672c", 4},
		{"\U0001f600\ufe0f", 2},
		{"\ufffd", 1},
		{"\xff", 1},
		{"\x80\x81\x82\x83", 4},
		{"\xe4\xb8", 2},  // 4E00, all but its last byte
		{"\xe4\xb8a", 3}, // and something else behind
		{"\xe4\xb8\xe4\xb8\x80", 4},
		{"\xcc", 1},             // 301, all but its last byte
		{"\xed\xa0\x80", 3},     // D800, which is no point
		{"\xf4\x90\x80\x80", 4}, // 110000, which is none either
		{"\xc1\xa1", 2},         // 61 with too many bytes
		{"\xf0\x84\xb8\x80", 4}, // 4E00 with too many bytes
	} {
		if n := width.Text(c.s); n != c.want {
			t.Errorf("Text(%q) = %d, not %d", c.s, n, c.want)
		}
	}
}

func TestP2_2TextOfEveryPoint(t *testing.T) {
	o := oracle(columnsOf(t))
	for point := 0; point <= 0x10ffff; point++ {
		s := char.Text([]int{point})
		if n := width.Text(s); n != o.text(s) {
			t.Fatalf("Text of the point %x = %d, not %d", point, n, o.text(s))
		}
	}
}

func TestP2_2AllShortTexts(t *testing.T) {
	o := oracle(columnsOf(t))
	for s := range texts(4) {
		if n := width.Text(s); n != o.text(s) {
			t.Fatalf("Text(%q) = %d, not %d", s, n, o.text(s))
		}
	}
}

func TestP2_3Cuts(t *testing.T) {
	for _, c := range []struct {
		s    string
		most int
		want string
		n    int
	}{
		{"a\u4e00a", 2, "a", 1}, {"a\u4e00a", 3, "a\u4e00", 3}, {"a\u4e00a", 0, "", 0}, {"a\u4e00a", -1, "", 0}, // the document's
		{"a\u0301b", 1, "a\u0301", 1}, {"\u0301a", 0, "\u0301", 0},
		{"", 0, "", 0},
		{"", 7, "", 0},
		{"", -7, "", 0},
		{"\u0301a", -1, "", 0},
		{"\u0301\u0301", math.MinInt, "", 0},
		{"\u4e00", 1, "", 0},
		{"\u4e00\u0301", 1, "", 0},
		{"a\u4e00b", 2, "a", 1}, // what comes behind and would fit does not stand in for what does not
		{"\u4e00\u200b\u0301\u4e00", 3, "\u4e00\u200b\u0301", 2},
		{"a\u0301\u0301", 1, "a\u0301\u0301", 1},
		{"ab", 2, "ab", 2},
		{"ab", 3, "ab", 2},
		{"ab", math.MaxInt, "ab", 2},
		{"\xe4\xb8", 1, "\xe4", 1},
		{"\xe4\xb8\x80\xff", 2, "\xe4\xb8\x80", 2},
		{"\xe4\xb8\x80\xff", 3, "\xe4\xb8\x80\xff", 3},
		{"\xff\u0301\xff", 1, "\xff\u0301", 1},
		{"\xff\xff", 0, "", 0},
	} {
		if got, n := width.Cut(c.s, c.most); got != c.want || n != c.n {
			t.Errorf("Cut(%q, %d) = %q, %d, not %q, %d", c.s, c.most, got, n, c.want, c.n)
		}
	}
}

// widths are those to cut a text of so many columns at: all that may matter, and one or two beyond each end.
func widths(columns int) []int {
	l := []int{math.MinInt, math.MaxInt}
	for most := -2; most <= columns+2; most++ {
		l = append(l, most)
	}
	return l
}

func TestP2_3AllShortTexts(t *testing.T) {
	o := oracle(columnsOf(t))
	for s := range texts(3) {
		for _, most := range widths(o.text(s)) {
			want, columns := o.cut(s, most)
			if got, n := width.Cut(s, most); got != want || n != columns {
				t.Fatalf("Cut(%q, %d) = %q, %d, not %q, %d", s, most, got, n, want, columns)
			}
		}
	}
}

func TestP2_4Joined(t *testing.T) {
	for a := range texts(2) {
		if char.Whole(a) != len(a) {
			continue
		}
		for b := range texts(2) {
			if n, want := width.Text(a+b), width.Text(a)+width.Text(b); n != want {
				t.Fatalf("Text(%q) = %d; of its parts %q and %q: %d", a+b, n, a, b, want)
			}
		}
	}
}

// A text with an open end may be something else with what comes behind: then the sum is another.
func TestP2_4JoinedBehindAnOpenEnd(t *testing.T) {
	for _, c := range []struct {
		a, b         string
		joined, both int
	}{
		{"\xe4\xb8", "\x80", 2, 3},
		{"\xcc", "\x81", 0, 2},
		{"\xe2\x82", "\xac", 1, 3},
		{"\xf0\x9f", "\x98\x80", 2, 4},
	} {
		joined, both := width.Text(c.a+c.b), width.Text(c.a)+width.Text(c.b)
		if joined != c.joined || both != c.both {
			t.Errorf("%q and %q: %d joined, %d in two, not %d and %d", c.a, c.b, joined, both, c.joined, c.both)
		}
	}
}

func TestP2_4WhatCutTells(t *testing.T) {
	for s := range texts(3) {
		last := ""
		for most := -2; most <= width.Text(s)+2; most++ {
			got, n := width.Cut(s, most)
			if !strings.HasPrefix(s, got) || n != width.Text(got) || n > max(most, 0) {
				t.Fatalf("Cut(%q, %d) = %q, %d", s, most, got, n)
			}
			if len(got) < len(last) {
				t.Fatalf("Cut(%q, %d) = %q, shorter than at a smaller width", s, most, got)
			}
			last = got
			if got == s {
				continue
			}
			point, size, good := char.Next(s, len(got))
			more := width.Of(point)
			if !good {
				more = 1
			}
			if size == 0 || n+more <= most {
				t.Fatalf("Cut(%q, %d) = %q: one more would fit", s, most, got)
			}
		}
		if got, n := width.Cut(s, width.Text(s)); got != s || n != width.Text(s) {
			t.Fatalf("Cut(%q, Text) = %q, %d", s, got, n)
		}
	}
}

func TestP2_4LongTexts(t *testing.T) {
	s := strings.Repeat("a\u0301\u4e00\xff", 1<<18)
	columns := 4 << 18
	if n := width.Text(s); n != columns {
		t.Errorf("Text of a long text = %d, not %d", n, columns)
	}
	if got, n := width.Cut(s, columns); got != s || n != columns {
		t.Errorf("Cut of a long text at its columns: %d bytes, %d", len(got), n)
	}
	if got, n := width.Cut(s, columns-1); got != s[:len(s)-1] || n != columns-1 {
		t.Errorf("Cut of a long text at one less: %d bytes, %d", len(got), n)
	}
}
