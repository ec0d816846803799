package char_test

import (
	"slices"
	"strings"
	"testing"

	"colophon/char"
)

// held holds all calls with a text against the document's table.
func held(t *testing.T, s string) {
	t.Helper()
	l := charactersOf(s)
	var points, places []int
	at, valid := 0, true
	for _, c := range l {
		points, places = append(points, c.point), append(places, at)
		at, valid = at+c.size, valid && c.good
	}
	if got := char.Points(s); !slices.Equal(got, points) {
		t.Fatalf("Points(%x) = %x, want %x", s, got, points)
	}
	if got := char.Places(s); !slices.Equal(got, places) {
		t.Fatalf("Places(%x) = %d, want %d", s, got, places)
	}
	if char.Count(s) != len(l) || char.Valid(s) != valid {
		t.Fatalf("Count(%x) = %d, Valid %v; want %d, %v", s, char.Count(s), char.Valid(s), len(l), valid)
	}
	if got := char.Whole(s); got != wholeOf(s) {
		t.Fatalf("Whole(%x) = %d, want %d", s, got, wholeOf(s))
	}
	for at := range len(s) {
		if got, want := nextOf(s, at), firstOf(s[at:]); got != want {
			t.Fatalf("Next(%x, %d) = %v, want %v", s, at, got, want)
		}
	}
	for at := 1; at <= len(s); at++ {
		front := charactersOf(s[:at])
		if got, want := lastOf(s, at), front[len(front)-1]; got != want {
			t.Fatalf("Last(%x, %d) = %v, want %v", s, at, got, want)
		}
	}
}

func TestP1_1ToP1_5AsTheTableHasIt(t *testing.T) {
	for s := range edgeTexts(3) {
		held(t, s)
	}
	for a := range 256 {
		for b := range 256 {
			held(t, string([]byte{byte(a), byte(b)}))
			for _, c := range []byte{0x7f, 0x80, 0xbf, 0xc0} {
				held(t, string([]byte{byte(a), byte(b), 0x80, c}))
				held(t, string([]byte{byte(a), byte(b), 0xbf, c}))
			}
		}
	}
}

func TestP1_4EveryPoint(t *testing.T) {
	for n := range 0x10ffff + 1 {
		if n >= 0xd800 && n <= 0xdfff {
			continue
		}
		s := char.Text([]int{n})
		if c := firstOf(s); c != (character{n, len(s), true}) {
			t.Fatalf("Text(%x) = %x", n, s)
		}
		if c := nextOf(s, 0); c != (character{n, len(s), true}) {
			t.Fatalf("Next(%x, 0) = %v", s, c)
		}
	}
}

// forward goes by Next from the front on, and gives the characters and where they begin.
func forward(s string) ([]character, []int) {
	var l []character
	var places []int
	for at := 0; at < len(s); {
		c := nextOf(s, at)
		l, places = append(l, c), append(places, at)
		at += max(c.size, 1)
	}
	return l, places
}

// backward goes by Last from the end on, and gives the same, turned round.
func backward(s string) ([]character, []int) {
	var l []character
	var places []int
	for at := len(s); at > 0; {
		c := lastOf(s, at)
		at -= max(c.size, 1)
		l, places = append(l, c), append(places, at)
	}
	slices.Reverse(l)
	slices.Reverse(places)
	return l, places
}

func TestP1_6ThereAndBack(t *testing.T) {
	for s := range edgeTexts(4) {
		front, places := forward(s)
		back, turned := backward(s)
		if !slices.Equal(front, back) || !slices.Equal(places, turned) {
			t.Fatalf("%x: Next gives %v, Last %v", s, front, back)
		}
		if !slices.Equal(places, char.Places(s)) {
			t.Fatalf("%x: Next goes through %d, Places are %d", s, places, char.Places(s))
		}
		var joined strings.Builder
		for i, c := range front {
			if !c.good && (c.size != 1 || c.point != 0xfffd) {
				t.Fatalf("%x: a bad one is %v", s, c)
			}
			joined.WriteString(s[places[i] : places[i]+c.size])
		}
		if joined.String() != s {
			t.Fatalf("%x: its characters together are %x", s, joined.String())
		}
		if again := char.Text(char.Points(s)); (again == s) != char.Valid(s) {
			t.Fatalf("%x: Text of Points is %x, Valid %v", s, again, char.Valid(s))
		}
	}
}

func TestP1_6PointsOfTextOfPoints(t *testing.T) {
	edges := []int{0, 0x61, 0x7f, 0x80, 0x7ff, 0x800, 0xd7ff, 0xe000, 0xfffd, 0xffff, 0x10000, 0x10ffff}
	for _, a := range edges {
		for _, b := range edges {
			for _, c := range edges {
				l := []int{a, b, c}
				if got := char.Points(char.Text(l)); !slices.Equal(got, l) {
					t.Fatalf("Points(Text(%x)) = %x", l, got)
				}
			}
		}
	}
}

func TestP1_6LongText(t *testing.T) {
	s := strings.Repeat("a\xc3\xa9\xe2\x82\xf0\x9f\x98\x80\xff", 20000)
	front, places := forward(s)
	back, _ := backward(s)
	if !slices.Equal(front, back) || !slices.Equal(places, char.Places(s)) || char.Count(s) != 6*20000 {
		t.Error("Next, Last, Places and Count of a long text do not go together")
	}
}

func TestP1_7WhateverStandsBehind(t *testing.T) {
	for s := range edgeTexts(3) {
		whole := char.Whole(s)
		head, _ := forward(s[:whole])
		for b := range edgeTexts(1) {
			l, _ := forward(s + b)
			if len(l) < len(head) || !slices.Equal(l[:len(head)], head) {
				t.Fatalf("%x, then %x: characters %v, of the first %d bytes alone %v", s, b, l, whole, head)
			}
		}
	}
}

func TestP1_7JoinedTexts(t *testing.T) {
	for a := range edgeTexts(2) {
		if char.Whole(a) != len(a) {
			continue
		}
		first, _ := forward(a)
		for b := range edgeTexts(2) {
			second, _ := forward(b)
			both, _ := forward(a + b)
			if !slices.Equal(both, slices.Concat(first, second)) {
				t.Fatalf("%x and %x, joined, have %v", a, b, both)
			}
		}
	}
}

// An open end is taken away only where something can indeed make another character of it.
func TestP1_7OpenEndsCanBecomeOthers(t *testing.T) {
	tails := []string{"\x80", "\xbf", "\x80\x80", "\xbf\xbf", "\x80\x80\x80", "\xbf\xbf\xbf"}
	for s := range edgeTexts(3) {
		whole := char.Whole(s)
		if whole == len(s) {
			continue
		}
		becomes := slices.ContainsFunc(tails, func(b string) bool {
			c := nextOf(s+b, whole)
			return c.good && c.size > len(s)-whole
		})
		if !becomes {
			t.Fatalf("Whole(%x) = %d, but nothing goes on behind it", s, whole)
		}
	}
}
