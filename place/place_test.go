package place_test

import (
	"math"
	"strings"
	"testing"

	"colophon/api"
	"colophon/place"
)

func TestP3_1Start(t *testing.T) {
	if p := place.Start(); p != at(0, 1, 1) {
		t.Errorf("Start() = %v", p)
	}
}

type advance struct {
	p    api.Place
	s    string
	want api.Place
}

func testAdvance(t *testing.T, l []advance) {
	t.Helper()
	for _, c := range l {
		if p := place.Advance(c.p, c.s); p != c.want {
			t.Errorf("Advance(%v, %q) = %v, not %v", c.p, c.s, p, c.want)
		}
	}
}

func TestP3_2Examples(t *testing.T) {
	testAdvance(t, []advance{
		{at(0, 1, 1), "ab", at(2, 1, 3)},
		{at(0, 1, 1), "a\n\u00e9b", at(5, 2, 3)},
		{at(5, 2, 3), "\n", at(6, 3, 1)},
	})
}

func TestP3_2WithoutFeeds(t *testing.T) {
	testAdvance(t, []advance{
		{at(0, 1, 1), "", at(0, 1, 1)},
		{at(5, 2, 3), "", at(5, 2, 3)},
		{at(5, 2, 3), "a", at(6, 2, 4)},
		{at(5, 2, 3), "\u00e9\u4e00\U0001f600", at(14, 2, 6)},
		{at(0, 1, 1), "e\u0301\u200b", at(6, 1, 4)},    // columns count characters that have no width
		{at(0, 1, 1), "\u4e00\u4e00", at(6, 1, 3)},     // and those of two columns once
		{at(0, 1, 1), "\t\t", at(2, 1, 3)},             // a tab is one as well
		{at(0, 1, 1), "a\rb\r", at(4, 1, 5)},           // 0D is no line feed
		{at(0, 1, 1), "\v\f\x00\x1e\x85", at(5, 1, 6)}, // nor are these
		{at(0, 1, 1), "\u0085\u2028\u2029", at(8, 1, 4)},
		{at(0, 1, 1), "\u010a\u0a0a", at(5, 1, 3)}, // points that end with 0A, without that byte
	})
}

func TestP3_2WithFeeds(t *testing.T) {
	testAdvance(t, []advance{
		{at(5, 2, 3), "\n\n\n", at(8, 5, 1)},
		{at(5, 2, 3), "abc\n", at(9, 3, 1)},
		{at(5, 2, 3), "\nabc", at(9, 3, 4)},
		{at(5, 2, 3), "ab\n\u4e00\n\xff\u00e9", at(15, 4, 3)},
		{at(5, 2, 3), "a\r\nb", at(9, 3, 2)},
		{at(0, 1, 1), "\n\r", at(2, 2, 2)},
		{at(0, 1, 1), "\x00\n\x00", at(3, 2, 2)},
	})
}

func TestP3_2BadCharactersAndOpenEnds(t *testing.T) {
	testAdvance(t, []advance{
		{at(0, 1, 1), "\xff\xff", at(2, 1, 3)},
		{at(0, 1, 1), "\x80\x81\x82\x83", at(4, 1, 5)},
		{at(0, 1, 1), "\xed\xa0\x80", at(3, 1, 4)},
		{at(0, 1, 1), "\xf4\x90\x80\x80", at(4, 1, 5)},
		{at(0, 1, 1), "\xc1\x8a", at(2, 1, 3)}, // 0A with too many bytes is no line feed
		{at(0, 1, 1), "\xe0\x80\x8a", at(3, 1, 4)},
		{at(0, 1, 1), "a\xe4\xb8", at(3, 1, 4)},
		{at(0, 1, 1), "\n\xf0\x9f\x98", at(4, 2, 4)},
		{at(0, 1, 1), "\xe4\xb8\n\x80", at(4, 2, 2)}, // a feed ends what it stands in
		{at(0, 1, 1), "\xc3\n\xa9", at(3, 2, 2)},
		{at(0, 1, 1), "\xe4\xe4\xb8\x80", at(4, 1, 3)},
		{at(0, 1, 1), "\ufffd\xff", at(4, 1, 3)},
	})
}

func TestP3_2AnyPlace(t *testing.T) {
	testAdvance(t, []advance{
		{at(0, 0, 0), "a\u00e9", at(3, 0, 2)},
		{at(0, 0, 0), "a\n\u00e9", at(4, 1, 2)},
		{at(-7, -3, -2), "abc", at(-4, -3, 1)},
		{at(-7, -3, -2), "a\n\nb", at(-3, -1, 2)},
		{at(math.MaxInt, math.MaxInt, math.MaxInt), "", at(math.MaxInt, math.MaxInt, math.MaxInt)},
		{at(math.MaxInt, math.MaxInt, math.MaxInt), "\u00e9", at(math.MinInt+1, math.MaxInt, math.MinInt)},
		{at(math.MaxInt, math.MaxInt, math.MaxInt), "a\nb", at(math.MinInt+2, math.MinInt, 2)},
		{at(math.MaxInt-1, math.MaxInt-1, 1), "\n\n\n", at(math.MinInt+1, math.MinInt+1, 1)},
		{at(math.MinInt, math.MinInt, math.MinInt), "\na", at(math.MinInt+2, math.MinInt+1, 2)},
	})
}

func TestP3_2AllShortTexts(t *testing.T) {
	for s := range texts(3) {
		for _, p := range somePlaces {
			if got, want := place.Advance(p, s), behind(p, s); got != want {
				t.Fatalf("Advance(%v, %q) = %v, not %v", p, s, got, want)
			}
		}
	}
}

func TestP3_3Of(t *testing.T) {
	none := api.Place{}
	for _, c := range []struct {
		s    string
		at   int
		want api.Place
		e    api.Errno
	}{
		{"\xc3\xa9\x61", 1, at(1, 1, 2), api.OK}, {"\xc3\xa9\x61", 2, at(2, 1, 2), api.OK}, // the document's
		{"\x61", 2, none, api.ErrArg}, {"\x61", -1, none, api.ErrArg},
		{"", 0, at(0, 1, 1), api.OK},
		{"", 1, none, api.ErrArg},
		{"", -1, none, api.ErrArg},
		{"a\nb", 0, at(0, 1, 1), api.OK},
		{"a\nb", 1, at(1, 1, 2), api.OK}, // the feed itself is the last of its line
		{"a\nb", 2, at(2, 2, 1), api.OK},
		{"a\nb", 3, at(3, 2, 2), api.OK},
		{"a\nb", 4, none, api.ErrArg},
		{"a\n", 2, at(2, 2, 1), api.OK},
		{"a\n", 3, none, api.ErrArg},
		{"a\nb", math.MinInt, none, api.ErrArg},
		{"a\nb", math.MaxInt, none, api.ErrArg},
		{"a\nb", 1 << 32, none, api.ErrArg},
		{"\U0001f600a", 1, at(1, 1, 2), api.OK}, // within a character: each byte ahead by itself
		{"\U0001f600a", 2, at(2, 1, 3), api.OK},
		{"\U0001f600a", 3, at(3, 1, 4), api.OK},
		{"\U0001f600a", 4, at(4, 1, 2), api.OK},
		{"\U0001f600a", 5, at(5, 1, 3), api.OK},
		{"\xff\xe4\xb8\n\x80", 3, at(3, 1, 4), api.OK},
		{"\xff\xe4\xb8\n\x80", 5, at(5, 2, 2), api.OK},
	} {
		if p, e := place.Of(c.s, c.at); p != c.want || e != c.e {
			t.Errorf("Of(%q, %d) = %v, %d, not %v, %d", c.s, c.at, p, e, c.want, c.e)
		}
	}
}

func TestP3_3AllShortTexts(t *testing.T) {
	for s := range texts(3) {
		for n := 0; n <= len(s); n++ {
			want := behind(at(0, 1, 1), s[:n])
			if p, e := place.Of(s, n); p != want || e != api.OK {
				t.Fatalf("Of(%q, %d) = %v, %d, not %v", s, n, p, e, want)
			}
		}
		for _, n := range []int{math.MinInt, -2, -1, len(s) + 1, len(s) + 2, math.MaxInt} {
			if p, e := place.Of(s, n); p != (api.Place{}) || e != api.ErrArg {
				t.Fatalf("Of(%q, %d) = %v, %d, not ErrArg", s, n, p, e)
			}
		}
	}
}

func TestP3_4Line(t *testing.T) {
	for _, c := range []struct {
		s    string
		n    int
		want string
		is   bool
	}{
		{"a\nb", 2, "b", true}, {"a\n", 2, "", true}, {"", 1, "", true}, {"a", 2, "", false}, {"a", 0, "", false}, // the document's
		{"a\nb", 1, "a", true},
		{"a\nb", 3, "", false},
		{"a\n", 1, "a", true},
		{"a\n", 3, "", false},
		{"", 2, "", false},
		{"", 0, "", false},
		{"", -1, "", false},
		{"\n", 1, "", true},
		{"\n", 2, "", true},
		{"\n", 3, "", false},
		{"\n\nc\n", 2, "", true},
		{"\n\nc\n", 3, "c", true},
		{"\n\nc\n", 4, "", true},
		{"\n\nc\n", 5, "", false},
		{"a\r\nb\r", 1, "a\r", true},
		{"a\r\nb\r", 2, "b\r", true},
		{"a\r\nb\r", 3, "", false},
		{"a\u2028b\n\u0085", 1, "a\u2028b", true},
		{"a\u2028b\n\u0085", 2, "\u0085", true},
		{"\xe4\xb8\n\x80\xff", 1, "\xe4\xb8", true},
		{"\xe4\xb8\n\x80\xff", 2, "\x80\xff", true},
		{"\xc1\x8a", 1, "\xc1\x8a", true},
		{"\xc1\x8a", 2, "", false},
		{"a\nb", -1, "", false},
		{"a\nb", math.MinInt, "", false},
		{"a\nb", math.MaxInt, "", false},
		{"a\nb", 1<<32 + 1, "", false},
	} {
		if line, is := place.Line(c.s, c.n); line != c.want || is != c.is {
			t.Errorf("Line(%q, %d) = %q, %v, not %q, %v", c.s, c.n, line, is, c.want, c.is)
		}
	}
}

func TestP3_4AllShortTexts(t *testing.T) {
	for s := range texts(4) {
		l := linesOf(s)
		for i, want := range l {
			if line, is := place.Line(s, i+1); line != want || !is {
				t.Fatalf("Line(%q, %d) = %q, %v, not %q", s, i+1, line, is, want)
			}
		}
		for _, n := range []int{math.MinInt, -1, 0, len(l) + 1, len(l) + 2, math.MaxInt} {
			if line, is := place.Line(s, n); line != "" || is {
				t.Fatalf("Line(%q, %d) = %q, %v, and there is none", s, n, line, is)
			}
		}
	}
}

func TestP3_4LongTexts(t *testing.T) {
	const lines = 1 << 19
	s := strings.Repeat("\u00e9\xff\n", lines) + "end"
	if line, is := place.Line(s, lines); line != "\u00e9\xff" || !is {
		t.Errorf("the last line but one: %q, %v", line, is)
	}
	if line, is := place.Line(s, lines+1); line != "end" || !is {
		t.Errorf("the last line: %q, %v", line, is)
	}
	if p, e := place.Of(s, len(s)); p != at(4*lines+3, lines+1, 4) || e != api.OK {
		t.Errorf("Of at the end of a long text = %v, %d", p, e)
	}
	if p := place.Advance(at(1, 1, 2), strings.Repeat("\u4e00", lines)); p != at(3*lines+1, 1, lines+2) {
		t.Errorf("Advance by a long line = %v", p)
	}
}
