package report_test

import (
	"errors"
	"fmt"
	"math"
	"math/rand/v2"
	"strings"
	"testing"

	"colophon/api"
	"colophon/format"
	"colophon/report"
	"colophon/samples"
	"colophon/width"
)

func TestP20_1Examples(t *testing.T) {
	holds(t, "f", "abc", at(1, 2), "f: 1:2: error 100\n  abc\n   ^\n")
	holds(t, "f", "a\n\u4e00e\u0301\tx\xffy\n", at(2, 6), "f: 2:6: error 100\n  \u4e00e\u0301 x\xef\xbf\xbdy\n       ^\n")
	holds(t, "f", "ab", at(1, 3), "f: 1:3: error 100\n  ab\n    ^\n")
	holds(t, "f", "ab", at(1, 4), "f: 1:4: error 100\n")
	holds(t, "f", "ab\n", at(2, 1), "f: 2:1: error 100\n  \n  ^\n")
	holds(t, "f", "ab\n", at(3, 1), "f: 3:1: error 100\n")
	holds(t, "f", "ab", errors.New("no"), "f: no\n")
	holds(t, "f", "ab", (*api.Fault)(nil), "f: \n")
	holds(t, "f", "ab", nil, "")
}

// What desk tells in the examples of the whole, of the errors that format tells.
func TestP20_1ExamplesOfTheWhole(t *testing.T) {
	for _, c := range []struct{ source, want string }{
		{"a:=\"\u65e5\u672c\" // \u00e9\n", told("source: 1:1: error 120", "  a:=\"\u65e5\u672c\" // \u00e9", "  ^")},
		{"program p;\nbegin \u65e5 := \"\u00e9\" ? end.\n", told("source: 2:16: error 100", "  begin \u65e5 := \"\u00e9\" ? end.", "                  ^")},
		{"{\n", told("source: 1:1: error 101", "  {", "  ^")},
	} {
		_, err := format.Format(72, c.source)
		holds(t, "source", c.source, err, c.want)
	}
}

func TestP20_1OfNilNothing(t *testing.T) {
	for _, name := range []string{"", "f", "\xff\n"} {
		for _, s := range []string{"", "ab", "\n\n", "\xff"} {
			holds(t, name, s, nil, "")
		}
	}
}

func TestP20_1NoFaultIsFound(t *testing.T) {
	for _, c := range []struct {
		err  error
		want string
	}{
		{errors.New("no"), "f: no\n"},
		{errors.New(""), "f: \n"},
		{errors.New("a\nb\xff\t: \x00"), "f: a\nb\xff\t: \x00\n"},
		{errors.New("1:1: error 100"), "f: 1:1: error 100\n"},
		{api.ErrScanByte, "f: error 100\n"},
		{api.OK, "f: error 0\n"},
		{held{api.ErrArg}, "f: held\n"},
		{held{nil}, "f: held\n"},
		{held{held{errors.New("no")}}, "f: held\n"},
		{errors.Join(errors.New("a"), errors.New("b")), "f: a\nb\n"},
		{giver{at(1, 1), false}, "f: giver\n"},
		{held{giver{at(1, 1), false}}, "f: held\n"},
	} {
		holds(t, "f", "ab", c.err, c.want)
	}
}

// A nil Fault is none, and the word is that of the error that was handed in; what stands behind it is not looked for.
func TestP20_1ANilFaultIsFound(t *testing.T) {
	var none *api.Fault
	for _, c := range []struct {
		err  error
		want string
	}{
		{none, "f: \n"},
		{held{none}, "f: held\n"},
		{held{held{none}}, "f: held\n"},
		{errors.Join(none, at(1, 1)), "f: \n1:1: error 100\n"},
		{giver{none, true}, "f: giver\n"},
	} {
		holds(t, "f", "ab", c.err, c.want)
	}
}

// The word is the Fault's then, whatever the error around it says.
func TestP20_1AnErrorThatHoldsAFault(t *testing.T) {
	for _, err := range []error{
		at(1, 2),
		held{at(1, 2)},
		held{held{held{at(1, 2)}}},
		errors.Join(at(1, 2), at(2, 1)),
		errors.Join(errors.New("no"), at(1, 2), errors.New("no")),
		held{errors.Join(held{errors.New("no")}, held{at(1, 2)})},
		fmt.Errorf("reading: %w", at(1, 2)),
		giver{at(1, 2), true},
		held{giver{at(1, 2), true}},
	} {
		holds(t, "f", "ab", err, "f: 1:2: error 100\n  ab\n   ^\n")
	}
}

// The Fault's line, column and number stand behind the name, whatever they are; how many bytes are ahead is not asked.
func TestP20_1TheFirstLine(t *testing.T) {
	for _, c := range []struct {
		fault api.Fault
		want  string
	}{
		{api.Fault{}, "f: 0:0: error 0\n"},
		{api.Fault{Code: api.ErrArg}, "f: 0:0: error 1\n"},
		{api.Fault{Code: api.ErrParseEnd, Place: api.Place{At: 9, Line: 1, Column: 1}}, "f: 1:1: error 121\n  ab\n  ^\n"},
		{api.Fault{Code: -7, Place: api.Place{At: -1, Line: 1, Column: 2}}, "f: 1:2: error -7\n  ab\n   ^\n"},
		{api.Fault{Code: math.MaxInt, Place: api.Place{At: math.MinInt, Line: 1, Column: 3}}, "f: 1:3: error 9223372036854775807\n  ab\n    ^\n"},
		{api.Fault{Code: math.MinInt, Place: api.Place{At: 1, Line: math.MinInt, Column: math.MaxInt}}, "f: -9223372036854775808:9223372036854775807: error -9223372036854775808\n"},
		{api.Fault{Code: 1, Place: api.Place{At: 2, Line: 12, Column: 345}}, "f: 12:345: error 1\n"},
	} {
		holds(t, "f", "ab", &c.fault, c.want)
	}
}

func TestP20_1ANameIsAnyBytes(t *testing.T) {
	for _, name := range []string{"", " ", "a.b", "a: b", "a\nb", "\x00\t\x7f", "\xff\xc3", "\u4e00\u0301", "%s", strings.Repeat("n", 100000)} {
		holds(t, name, "ab", at(1, 2), name+": 1:2: error 100\n  ab\n   ^\n")
		holds(t, name, "ab", at(2, 1), name+": 2:1: error 100\n")
		holds(t, name, "ab", errors.New("no"), name+": no\n")
		holds(t, name, "ab", (*api.Fault)(nil), name+": \n")
	}
}

func TestP20_1LinesThatTheSourceDoesNotHave(t *testing.T) {
	for s, lines := range map[string]int{"": 1, "a": 1, "\r": 1, "\u2028\u0085\v": 1, "\n": 2, "a\nb": 2, "\n\n\n": 4} {
		for _, line := range []int{math.MinInt, -1, 0, lines + 1, lines + 2, math.MaxInt} {
			holdsAt(t, s, line, 1)
		}
		for line := 1; line <= lines; line++ {
			if got := report.Show("f", s, at(line, 1)); !strings.HasSuffix(got, "\n  ^\n") {
				t.Errorf("line %d of %q: %q", line, s, got)
			}
		}
	}
}

func TestP20_1ColumnsThatTheLineDoesNotHave(t *testing.T) {
	for line, characters := range map[string]int{
		"": 0, "a": 1, "ab": 2, "\u4e00": 1, "\u0301": 1, "e\u0301": 2, "\t": 1, "\r": 1, "\xff": 1, "\xe4\xb8": 2, "\xed\xa0\x80": 3, "\U0001f600\x80": 2,
	} {
		for _, s := range []string{line, line + "\nmore of it", line + "\n"} {
			for _, column := range []int{math.MinInt, -1, 0, characters + 2, characters + 3, math.MaxInt} {
				holdsAt(t, s, 1, column)
			}
			for column := 1; column <= characters+1; column++ {
				if got := report.Show("f", s, at(1, column)); strings.Count(got, "\n") != 3 || !strings.HasSuffix(got, " ^\n") {
					t.Errorf("column %d of %q: %q", column, s, got)
				}
			}
		}
	}
}

// Each point that is no line's end, by itself: how it is shown, and where what stands behind it is marked.
func TestP20_1EveryPoint(t *testing.T) {
	t.Parallel()
	for n := rune(0); n <= 0x10ffff; n++ {
		if n == 0x0a || n >= 0xd800 && n <= 0xdfff {
			continue
		}
		shown := string(n)
		if n < 0x20 || n == 0x7f {
			shown = " "
		}
		mark := strings.Repeat(" ", width.Of(int(n)))
		if got, want := report.Show("f", string(n), at(1, 2)), "f: 1:2: error 100\n  "+shown+"\n  "+mark+"^\n"; got != want {
			t.Fatalf("%x: %q, not %q", n, got, want)
		}
	}
}

func TestP20_1EveryBadByte(t *testing.T) {
	for n := 0x80; n < 0x100; n++ {
		holdsAt(t, "a"+string([]byte{byte(n)})+"b", 1, 3, "  a\ufffdb", "    ^")
	}
}

// The bytes of a character that is cut off are bad ones each, and each is shown.
func TestP20_1BytesThatBeginACharacter(t *testing.T) {
	holdsAt(t, "a\xe4\xb8", 1, 4, "  a\ufffd\ufffd", "     ^")
	holdsAt(t, "a\xe4\xb8\n\x80", 1, 4, "  a\ufffd\ufffd", "     ^")
	holdsAt(t, "a\xe4\xb8\n\x80", 2, 2, "  \ufffd", "   ^")
	holdsAt(t, "\xf0\x9f\x98z\xf0\x9f\x98\x80", 1, 6, "  \ufffd\ufffd\ufffdz\U0001f600", "        ^")
	holdsAt(t, "\xef\xbf\xbd\xef\xbf", 1, 4, "  \ufffd\ufffd\ufffd", "     ^")
}

func TestP20_1WhereTheMarkIs(t *testing.T) {
	const s = "x\n\u4e00a\u0301\u200b\t\U0001f600\xff\x01z\ny"
	const line = "  \u4e00a\u0301\u200b \U0001f600\ufffd z"
	for i, columns := range []int{0, 2, 3, 3, 3, 4, 6, 7, 8, 9} {
		holdsAt(t, s, 2, i+1, line, "  "+strings.Repeat(" ", columns)+"^")
	}
	holdsAt(t, s, 2, 11)
}

// A carriage return is a character of its line, as at its end, so elsewhere.
func TestP20_1CarriageReturns(t *testing.T) {
	holdsAt(t, "a\rb\r\nc", 1, 5, "  a b ", "      ^")
	holdsAt(t, "a\rb\r\nc", 2, 1, "  c", "  ^")
}

func TestP20_1LongSources(t *testing.T) {
	long := strings.Repeat("\u4e00\u0301\xff", 100000)
	holdsAt(t, "\n"+long+"\n", 2, 300001, "  "+strings.Repeat("\u4e00\u0301\ufffd", 100000), strings.Repeat(" ", 300002)+"^")
	holdsAt(t, "\n"+long+"\n", 2, 300002)
	feeds := strings.Repeat("\n", 300000)
	holdsAt(t, feeds+"ab", 300001, 2, "  ab", "   ^")
	holdsAt(t, feeds+"ab", 300002, 1)
}

// parts are characters of every width and size, good ones and bad, such as are not shown as they are, and feeds. Some bad
// ones go on to a good one with what may stand behind them.
func parts() []string {
	return []string{
		"\n", "a", "\t", "\x00", "\x1f", " ", "~", "\x7f", "\u0080", "\u0301", "\u4e00", "\ufffd", "\U0001f600",
		"\xff", "\x80", "\xe4\xb8", "\xc3", "\xf0\x9f",
	}
}

func TestP20_1AllShortSources(t *testing.T) {
	t.Parallel()
	for s := range samples.Texts(parts(), 3) {
		asPlainEverywhere(t, s)
	}
}

func TestP20_1AnyBytes(t *testing.T) {
	t.Parallel()
	r := rand.New(rand.NewPCG(20, 1))
	for range 5000 {
		b := make([]byte, r.IntN(24))
		for i := range b {
			b[i] = byte(r.IntN(256))
			if r.IntN(6) == 0 {
				b[i] = '\n'
			}
		}
		asPlainEverywhere(t, string(b))
		asPlain(t, string(b), string(b), 1, 1+r.IntN(3))
	}
}

func TestP20_1SomeSources(t *testing.T) {
	t.Parallel()
	r := rand.New(rand.NewPCG(20, 2))
	for range 100 {
		asPlainEverywhere(t, samples.SomeSource(r.IntN, 1+r.IntN(60)))
	}
}
