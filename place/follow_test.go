package place_test

import (
	"strings"
	"testing"

	"colophon/api"
	"colophon/char"
	"colophon/place"
)

func TestP3_5Joined(t *testing.T) {
	for a := range texts(2) {
		if char.Whole(a) != len(a) {
			continue
		}
		for b := range texts(2) {
			for _, p := range somePlaces {
				if got, want := place.Advance(place.Advance(p, a), b), place.Advance(p, a+b); got != want {
					t.Fatalf("from %v by %q and %q: %v; by both: %v", p, a, b, got, want)
				}
			}
		}
	}
}

// Behind an open end the two ways may differ: the bytes that were counted one by one become one character.
func TestP3_5JoinedBehindAnOpenEnd(t *testing.T) {
	for _, c := range []struct {
		a, b          string
		inTwo, atOnce api.Place
	}{
		{"\xc3", "\xa9", at(2, 1, 3), at(2, 1, 2)},
		{"\n\xe4\xb8", "\x80", at(4, 2, 4), at(4, 2, 2)},
		{"a\xf0", "\x9f\x98\x80", at(5, 1, 6), at(5, 1, 3)},
		{"\xc3", "\n", at(2, 2, 1), at(2, 2, 1)}, // but where the end stays open, they do not
		{"\xe4\xb8", "a", at(3, 1, 4), at(3, 1, 4)},
	} {
		inTwo := place.Advance(place.Advance(place.Start(), c.a), c.b)
		atOnce := place.Advance(place.Start(), c.a+c.b)
		if inTwo != c.inTwo || atOnce != c.atOnce {
			t.Errorf("%q and %q: %v in two, %v at once, not %v and %v", c.a, c.b, inTwo, atOnce, c.inTwo, c.atOnce)
		}
	}
}

// placesOf are the places of a source's characters.
func placesOf(t *testing.T, s string) []api.Place {
	t.Helper()
	var l []api.Place
	for _, n := range char.Places(s) {
		p, e := place.Of(s, n)
		if e != api.OK || p.At != n {
			t.Fatalf("Of(%q, %d) = %v, %d", s, n, p, e)
		}
		l = append(l, p)
	}
	return l
}

func TestP3_5PlacesRise(t *testing.T) {
	for s := range texts(4) {
		l := placesOf(t, s)
		for i, p := range l {
			want := at(p.At, 1, 1)
			if i > 0 {
				want = at(p.At, l[i-1].Line, l[i-1].Column+1)
			}
			if i > 0 && s[l[i-1].At] == 0x0a {
				want = at(p.At, l[i-1].Line+1, 1)
			}
			if p != want {
				t.Fatalf("%q: the character at byte %d is at %v, not %v", s, p.At, p, want)
			}
		}
	}
}

func TestP3_5LineOfAPlace(t *testing.T) {
	for s := range texts(4) {
		for _, p := range placesOf(t, s) {
			line, is := place.Line(s, p.Line)
			if !is {
				t.Fatalf("%q: no line %d, where the character at byte %d stands", s, p.Line, p.At)
			}
			ahead := len(line)
			if begins := char.Places(line); p.Column <= len(begins) {
				ahead = begins[p.Column-1]
			}
			if char.Count(line) < p.Column-1 || !strings.HasSuffix(s[:p.At], line[:ahead]) || !strings.HasPrefix(s[p.At-ahead:], line) {
				t.Fatalf("%q: line %d is %q, and the character at byte %d has column %d", s, p.Line, line, p.At, p.Column)
			}
			if from := p.At - ahead; from > 0 && s[from-1] != 0x0a {
				t.Fatalf("%q: line %d does not begin %d bytes ahead of byte %d", s, p.Line, ahead, p.At)
			}
		}
	}
}

func TestP3_6AllLinesAreTheSource(t *testing.T) {
	for s := range texts(4) {
		var l []string
		for n := 1; ; n++ {
			line, is := place.Line(s, n)
			if !is {
				break
			}
			if strings.Contains(line, "\n") || n > len(s)+1 {
				t.Fatalf("Line(%q, %d) = %q, with a line feed, or one too many", s, n, line)
			}
			l = append(l, line)
		}
		if len(l) != 1+strings.Count(s, "\n") || strings.Join(l, "\n") != s {
			t.Fatalf("the lines of %q: %q", s, l)
		}
	}
}
