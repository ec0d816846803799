package class_test

import (
	"math"
	"slices"
	"strings"
	"testing"

	"colophon/class"
)

func TestP4_1Examples(t *testing.T) {
	for _, c := range []struct {
		point        int
		letter, part bool
	}{
		{0x61, true, true}, {0x5f, false, true}, {0xd7, false, false}, {0x301, false, true},
		{0x4e00, true, true}, {-1, false, false}, {0x39, false, true},
	} {
		if class.Letter(c.point) != c.letter || class.Part(c.point) != c.part {
			t.Errorf("%x: %v, %v, not %v, %v", c.point, class.Letter(c.point), class.Part(c.point), c.letter, c.part)
		}
	}
}

func TestP4_1EdgesOfTheSpans(t *testing.T) {
	for _, c := range []struct {
		first, last int
		letter      bool
	}{
		{0x41, 0x5a, true}, {0x61, 0x7a, true}, {0xc0, 0xd6, true}, {0xd8, 0xf6, true}, {0xf8, 0x24f, true},
		{0x391, 0x3a1, true}, {0x3a3, 0x3ce, true}, {0x400, 0x45f, true}, {0x5d0, 0x5ea, true}, {0x620, 0x64a, true},
		{0x904, 0x939, true}, {0x3041, 0x3096, true}, {0x30a1, 0x30fa, true}, {0x4e00, 0x9fff, true},
		{0xac00, 0xd7a3, true}, {0x10400, 0x1044f, true}, {0x20000, 0x2ffff, true},
		{0x30, 0x39, false}, {0x5f, 0x5f, false}, {0x300, 0x36f, false},
	} {
		for _, n := range []int{c.first, c.last} {
			if class.Letter(n) != c.letter || !class.Part(n) {
				t.Errorf("%x: %v, %v, not %v, true", n, class.Letter(n), class.Part(n), c.letter)
			}
		}
		for _, n := range []int{c.first - 1, c.last + 1} {
			if class.Letter(n) || class.Part(n) {
				t.Errorf("%x: %v, %v, not false, false", n, class.Letter(n), class.Part(n))
			}
		}
	}
}

func TestP4_1EveryPoint(t *testing.T) {
	o := newOracle(t)
	for n := -1; n <= 0x110000; n++ {
		if class.Letter(n) != o.letters[n] || class.Part(n) != o.parts[n] {
			t.Fatalf("%x: %v, %v, not %v, %v", n, class.Letter(n), class.Part(n), o.letters[n], o.parts[n])
		}
	}
}

// Numbers that are no points, some of which would be letters or parts if bits of them were left out.
func TestP4_1NoPoints(t *testing.T) {
	for _, n := range []int{
		-1, -0x61, -0x5f, -0x301, -0x4e00, 0xd800, 0xdbff, 0xdc00, 0xdfff, 0x110000, 0x110061, 0x120000, 0x200061,
		math.MinInt, math.MinInt + 0x61, math.MinInt + 0x301, math.MaxInt, math.MinInt32, math.MaxInt32,
		1<<32 + 0x61, 1<<32 + 0x301, 1<<31 + 0x61, -(1 << 32) + 0x61, -(1 << 16) + 0x61, -(1 << 8) + 0x61, 1<<40 + 0x30,
	} {
		if class.Letter(n) || class.Part(n) {
			t.Errorf("%x: %v, %v, not false, false", n, class.Letter(n), class.Part(n))
		}
	}
}

func TestP4_2IsKeyOfWords(t *testing.T) {
	for _, s := range keys() {
		if !class.IsKey(s) {
			t.Errorf("IsKey(%q) is false", s)
		}
		for end := range len(s) {
			if part, want := s[:end], slices.Contains(keys(), s[:end]); class.IsKey(part) != want {
				t.Errorf("IsKey(%q) is %v", part, !want)
			}
		}
		for _, other := range []string{
			s + "s", s + "_", s + "1", s + " ", s + "\u0301", s + "\xff", s + "\x00", s + s, " " + s, "x" + s,
			strings.ToUpper(s), strings.ToUpper(s[:1]) + s[1:], s[:len(s)-1] + strings.ToUpper(s[len(s)-1:]),
		} {
			if class.IsKey(other) {
				t.Errorf("IsKey(%q) is true", other)
			}
		}
	}
}

func TestP4_2IsKeyOfOthers(t *testing.T) {
	for _, s := range []string{
		"", "ends", "END", "a", "main", "int", "true", "mod", "function", "procedure", "andarray", "and array", ":=", "\xff",
		"\uff45nd", "\u0435nd", "\u0456f", // what looks like a word
	} {
		if class.IsKey(s) {
			t.Errorf("IsKey(%q) is true", s)
		}
	}
}

func TestP4_2Names(t *testing.T) {
	for _, c := range []struct {
		s    string
		want bool
	}{
		{"a1_", true}, {"\u00e9t\u00e9", true}, {"e\u0301", true}, {"End", true}, {"end", false}, // the document's
		{"1a", false}, {"_a", false}, {"", false}, {"a\xff", false}, {"\u0301a", false},
		{"a", true},
		{"Z", true},
		{"_", false},
		{"0", false},
		{"\u0301", false},
		{"a\u0301\u036f__09", true},
		{"\u65e5\u672c", true},
		{"\U00010400\U0002ffff", true},
		{"\uac00\u05d0\u0904", true},
		{"END", true},
		{"ends", true},
		{"end_", true},
		{"end1", true},
		{"end\u0301", true},
		{"en", true},
		{"d", true},
		{"pro", true},
		{"programs", true},
		{"end ", false},
		{" a", false},
		{"a b", false},
		{"a-b", false},
		{"a.b", false},
		{"a\n", false},
		{"a\x00", false},
		{"\x00", false},
		{"\u00d7", false},
		{"a\u00d7", false},
		{"a\u00f7", false},
		{"\u03a2", false},
		{"\xff", false},
		{"\xffa", false},
		{"a\xffb", false},
		{"\ufffd", false},
		{"a\ufffd", false},
		{"a\xc3", false}, // an open end
		{"a\xe4\xb8", false},
		{"a\xf0\x90\x90", false},
		{"\xe4\xb8", false},
		{"a\x80", false},
		{"\xc1\xa1", false},          // 61 with too many bytes
		{"a\xed\x9f\xbf", false},     // D7FF
		{"a\xed\xa0\x80", false},     // D800, which is no point
		{"a\xf4\x90\x80\x80", false}, // 110000, which is none either
	} {
		if got := class.IsName(c.s); got != c.want {
			t.Errorf("IsName(%q) = %v", c.s, got)
		}
	}
}

func TestP4_2NamesOfEveryPoint(t *testing.T) {
	o := newOracle(t)
	for n := 0; n <= 0x10ffff; n++ {
		if n >= 0xd800 && n <= 0xdfff {
			continue
		}
		s := string(rune(n))
		if class.IsName(s) != o.letters[n] || class.IsName("a"+s) != o.parts[n] {
			t.Fatalf("%x by itself: %v; behind an a: %v", n, class.IsName(s), class.IsName("a"+s))
		}
	}
}

func TestP4_2AllShortTexts(t *testing.T) {
	o := newOracle(t)
	for s := range nameTexts(3) {
		if got := class.IsName(s); got != o.isName(s) {
			t.Fatalf("IsName(%q) = %v", s, got)
		}
		if got := class.IsKey(s); got != slices.Contains(keys(), s) {
			t.Fatalf("IsKey(%q) = %v", s, got)
		}
	}
}

func TestP4_2LongTexts(t *testing.T) {
	s := strings.Repeat("a\u0301\u4e00_9", 1<<17)
	for _, c := range []struct {
		s    string
		want bool
	}{{s, true}, {"end" + s, true}, {s + "\xff", false}, {s + "-", false}, {"_" + s, false}, {s + "\xe4\xb8", false}} {
		if class.IsName(c.s) != c.want || class.IsKey(c.s) {
			t.Errorf("a long text: %v, %v, not %v, false", class.IsName(c.s), class.IsKey(c.s), c.want)
		}
	}
}

func TestP4_2Keys(t *testing.T) {
	l := class.Keys()
	if !slices.Equal(l, keys()) || !slices.IsSorted(l) || len(l) != 24 {
		t.Fatalf("Keys() = %q", l)
	}
	for i := range l {
		l[i] = "x"
	}
	_ = append(l[:0], "y", "z")
	if m := class.Keys(); !slices.Equal(m, keys()) {
		t.Errorf("Keys() = %q, when its first answer was written to", m)
	}
	if class.IsKey("x") || !class.IsKey("and") || class.IsName("and") {
		t.Error("what was written to an answer of Keys is a word of the language")
	}
}

func TestP4_3Signs(t *testing.T) {
	for _, c := range []struct {
		s    string
		at   int
		want string
	}{
		{"a:=b", 1, ":="}, {"a:=b", 2, "="}, {"...", 0, ".."}, {"a", 0, ""}, {";", 1, ""}, {"{", 0, ""}, // the document's
		{"...", 1, ".."},
		{"...", 2, "."},
		{"...", 3, ""},
		{":", 0, ":"},
		{"::=", 0, ":"},
		{"::=", 1, ":="},
		{": =", 0, ":"},
		{"<=>=", 0, "<="},
		{"<=>=", 1, "="},
		{"<=>=", 2, ">="},
		{"<=>=", 3, "="},
		{"<>", 0, "<"},
		{"<>", 1, ">"},
		{"=<", 0, "="},
		{"==", 0, "="},
		{"=:", 0, "="},
		{".=", 0, "."},
		{"#=", 0, "#"},
		{"//", 0, "/"},
		{"--", 0, "-"},
		{"a:=b", 0, ""},
		{"a:=b", 3, ""},
		{"a:=b", 4, ""},
		{"a:=b", 5, ""},
		{"a:=b", -1, ""},
		{":=", math.MinInt, ""},
		{":=", math.MaxInt, ""},
		{":=", -2, ""},
		{"", 0, ""},
		{"", 1, ""},
		{"", -1, ""},
		{"\xff;", 0, ""},
		{"\xff;", 1, ";"},
		{"\xe4\xb8;", 2, ";"},
		{"\u00e9=", 1, ""}, // within a character
		{"\uff1b", 0, ""},  // what looks like a sign
		{"!", 0, ""}, {"'", 0, ""}, {"\"", 0, ""}, {"_", 0, ""}, {" ;", 0, ""}, {"\n", 0, ""}, {"0", 0, ""}, {"}", 0, ""},
		{"&", 0, ""}, {"|", 0, ""}, {"^", 0, ""}, {"~", 0, ""}, {"?", 0, ""}, {"@", 0, ""}, {"$", 0, ""}, {"\\", 0, ""},
	} {
		if got := class.Sign(c.s, c.at); got != c.want {
			t.Errorf("Sign(%q, %d) = %q, not %q", c.s, c.at, got, c.want)
		}
	}
}

func TestP4_3EachSign(t *testing.T) {
	for _, sign := range signs() {
		for _, around := range [][2]string{{"", ""}, {"a", "a"}, {" ", " "}, {"\xff", "\xff"}, {"\u4e00", "\u4e00"}, {"{", "}"}} {
			s, at := around[0]+sign+around[1], len(around[0])
			if got := class.Sign(s, at); got != sign {
				t.Errorf("Sign(%q, %d) = %q, not %q", s, at, got, sign)
			}
		}
	}
}

func TestP4_3AllShortTexts(t *testing.T) {
	for s := range signTexts(3) {
		for at := -2; at <= len(s)+2; at++ {
			if got, want := class.Sign(s, at), signAt(s, at); got != want {
				t.Fatalf("Sign(%q, %d) = %q, not %q", s, at, got, want)
			}
		}
	}
}

func TestP4_3LongTexts(t *testing.T) {
	s := strings.Repeat(":=..", 1<<18)
	for _, c := range []struct {
		at   int
		want string
	}{{0, ":="}, {len(s) - 4, ":="}, {len(s) - 2, ".."}, {len(s) - 1, "."}, {len(s), ""}, {-1, ""}} {
		if got := class.Sign(s, c.at); got != c.want {
			t.Errorf("Sign of a long text at %d = %q, not %q", c.at, got, c.want)
		}
	}
}
