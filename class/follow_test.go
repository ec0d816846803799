package class_test

import (
	"slices"
	"strings"
	"testing"

	"colophon/char"
	"colophon/class"
	"colophon/width"
)

func TestP4_4EachLetterIsAPart(t *testing.T) {
	letters, parts := 0, 0
	for n := -1; n <= 0x110000; n++ {
		if class.Letter(n) && !class.Part(n) {
			t.Fatalf("%x is a letter, and no part", n)
		}
		if class.Letter(n) {
			letters++
		}
		if class.Part(n) {
			parts++
		}
	}
	// Without these a Letter that is never true would do.
	if letters == 0 || parts != letters+10+1+0x70 {
		t.Errorf("%d letters, %d parts", letters, parts)
	}
}

// partsOfEachSpan are some parts of every kind and size.
func partsOfEachSpan() []string {
	return []string{
		"a", "z", "A", "Z", "s", "n", "o", "0", "9", "_", "\u00e9", "\u00df", "\u024f", "\u0300", "\u036f", "\u03b1", "\u0416",
		"\u05d0", "\u0620", "\u0904", "\u3041", "\u30a1", "\u65e5", "\ud55c", "\U00010400", "\U0002a6a5",
	}
}

func TestP4_4ANameWithAPartBehindIt(t *testing.T) {
	names := 0
	for s := range nameTexts(2) {
		if !class.IsName(s) {
			continue
		}
		names++
		for _, part := range partsOfEachSpan() {
			if more := s + part; class.IsName(more) == class.IsKey(more) {
				t.Fatalf("%q is a name; %q: name %v, word %v", s, more, class.IsName(more), class.IsKey(more))
			}
		}
	}
	if names == 0 {
		t.Error("no names")
	}
}

func TestP4_4ANameMayBecomeAWord(t *testing.T) {
	for _, s := range keys() {
		ahead := s[:len(s)-1]
		if !class.IsName(ahead) && !class.IsKey(ahead) {
			t.Errorf("%q, which %q begins with, is neither name nor word", ahead, s)
		}
		if class.IsName(s) {
			t.Errorf("%q is a name", s)
		}
	}
}

func TestP4_4AWordWithAPartBehindIt(t *testing.T) {
	for _, s := range class.Keys() {
		for _, part := range partsOfEachSpan() {
			if more := s + part; class.IsName(more) == class.IsKey(more) {
				t.Errorf("%q: name %v, word %v", more, class.IsName(more), class.IsKey(more))
			}
		}
	}
}

func TestP4_4NamesAreWideAndValid(t *testing.T) {
	for s := range nameTexts(3) {
		if class.IsName(s) && (width.Text(s) < 1 || !char.Valid(s)) {
			t.Fatalf("the name %q: %d columns, valid %v", s, width.Text(s), char.Valid(s))
		}
	}
	for n := 0; n <= 0x10ffff; n++ {
		if class.Letter(n) && width.Of(n) < 1 {
			t.Fatalf("the letter %x has no width", n)
		}
	}
}

// A name is the text of its points, so rows of points that differ are names that differ, whatever they look like.
func TestP4_4NamesAreToldByTheirBytes(t *testing.T) {
	for s := range nameTexts(3) {
		if class.IsName(s) && char.Text(char.Points(s)) != s {
			t.Fatalf("the name %q is not the text of its points", s)
		}
	}
	for _, c := range [][2]string{{"\u00e9", "e\u0301"}, {"\uac00", "\u1100\u1161"}, {"end\u0301", "end"}, {"if", "\u0456f"}, {"end", "End"}} {
		for _, s := range c {
			want := !slices.Contains(keys(), s) && !strings.ContainsRune(s, 0x1100)
			if class.IsName(s) != want {
				t.Errorf("IsName(%q) = %v", s, !want)
			}
		}
	}
}

func TestP4_5NoSignBeginsWithAPart(t *testing.T) {
	for _, s := range signs() {
		if point, _, _ := char.Next(s, 0); class.Part(point) {
			t.Errorf("the sign %q begins with a part", s)
		}
	}
	for n := 0; n <= 0x10ffff; n++ {
		if got := class.Sign(char.Text([]int{n})+"=", 0); class.Part(n) && got != "" {
			t.Fatalf("%x is a part; Sign tells %q", n, got)
		}
	}
}

func TestP4_5WhatSignTells(t *testing.T) {
	told := 0
	for s := range signTexts(3) {
		for at := -1; at <= len(s); at++ {
			got := class.Sign(s, at)
			if got == "" {
				continue
			}
			told++
			if at < 0 || at >= len(s) || !strings.HasPrefix(s[at:], got) || !slices.Contains(signs(), got) {
				t.Fatalf("Sign(%q, %d) = %q, which does not stand there", s, at, got)
			}
			for _, sign := range signs() {
				if len(sign) > len(got) && strings.HasPrefix(s[at:], sign) {
					t.Fatalf("Sign(%q, %d) = %q; a longer one is %q", s, at, got, sign)
				}
			}
		}
	}
	if told == 0 {
		t.Error("no signs")
	}
}
