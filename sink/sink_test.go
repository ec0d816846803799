package sink_test

import (
	"fmt"
	"math"
	"strings"
	"testing"

	"colophon/api"
	"colophon/sink"
)

// outside are numbers that Blanks and Feed refuse.
var outside = []int{-1, -2, -1048576, math.MinInt32, math.MinInt, 1048577, 2097152, math.MaxInt32, 1 << 32, 1<<32 + 1, math.MaxInt}

// want fails the test, if a call does not answer so.
func want[T comparable](t *testing.T, call string, got, want T) {
	t.Helper()
	if got != want {
		t.Errorf("%s = %s, not %s", call, shown(got), shown(want))
	}
}

// shown is what a call answered, to be read.
func shown(x any) string {
	if t, ok := x.(string); ok {
		return short(t)
	}
	return fmt.Sprint(x)
}

func TestP6_1to7Examples(t *testing.T) {
	s := made(t)
	want(t, "Text(a)", s.Text("a"), api.OK)
	want(t, "Blanks(2)", s.Blanks(2), api.OK)
	want(t, "Column()", s.Column(), 3)
	want(t, "Feed(3)", s.Feed(3), api.OK)
	want(t, "Column()", s.Column(), 3)
	want(t, "Fresh()", s.Fresh(), true)
	want(t, "Text(b)", s.Text("b"), api.OK)
	want(t, "Take()", s.Take(), "a\n   b")

	s = made(t)
	want(t, "Empty()", s.Empty(), api.OK)
	want(t, "Feed(0)", s.Feed(0), api.OK)
	want(t, "Empty()", s.Empty(), api.OK)
	want(t, "Text(a)", s.Text("a"), api.OK)
	want(t, "Empty()", s.Empty(), api.OK)
	want(t, "Take()", s.Take(), "\n\n\na")

	s = made(t)
	want(t, "Blanks(1)", s.Blanks(1), api.OK)
	want(t, "Text()", s.Text(""), api.OK)
	want(t, "Text(x 0A yy)", s.Text("x\nyy"), api.OK)
	want(t, "Column()", s.Column(), 2)
	want(t, "Blanks(1)", s.Blanks(1), api.OK)
	want(t, "Take()", s.Take(), " x\nyy")
	want(t, "Take()", s.Take(), "")

	s = made(t)
	want(t, "Feed(-1)", s.Feed(-1), api.ErrArg)
	want(t, "Blanks(-1)", s.Blanks(-1), api.ErrArg)
	want(t, "Blanks(1048577)", s.Blanks(1048577), api.ErrArg)
}

func TestP6_1New(t *testing.T) {
	s := made(t)
	want(t, "Column()", s.Column(), 0)
	want(t, "Fresh()", s.Fresh(), true)
	want(t, "Take()", s.Take(), "")
	want(t, "Text(a)", s.Text("a"), api.OK)
	want(t, "Take()", s.Take(), "a")
	if sink.New() == sink.New() {
		t.Error("New() gives one sink twice")
	}
}

// What a text is written behind: texts in fresh lines, with and without an indent, with and without blanks that wait.
var heads = []struct {
	script []step
	ahead  string // what is written by then
	blanks string // and then ahead of a text
}{
	{nil, "", ""},
	{[]step{blanks(2)}, "", "  "},
	{[]step{text("a")}, "a", ""},
	{[]step{text("a"), blanks(2)}, "a", "  "},
	{[]step{text("a"), feed(0)}, "a\n", ""},
	{[]step{text("a"), feed(0), blanks(1)}, "a\n", " "},
	{[]step{text("a"), feed(3)}, "a\n", "   "},
	{[]step{text("a"), feed(3), blanks(1)}, "a\n", "    "},
	{[]step{feed(3), empty()}, "\n\n", "   "},
	{[]step{feed(3), blanks(1), empty()}, "\n\n", "   "},
	{[]step{feed(3), text("b\n")}, "\n   b\n", ""},
	{[]step{feed(3), text("b\n"), blanks(4)}, "\n   b\n", "    "},
	{[]step{feed(3), text("b\nc"), blanks(4)}, "\n   b\nc", "    "},
	{[]step{feed(3), text("\u65e5"), blanks(1), feed(1)}, "\n   \u65e5\n", " "},
}

// behind is a new sink on which a script was done.
func behind(t *testing.T, script []step) *sink.Sink {
	t.Helper()
	s := made(t)
	for _, step := range script {
		step.do(s)
	}
	return s
}

func TestP6_2Text(t *testing.T) {
	for _, h := range heads {
		for _, c := range []struct {
			text    string
			columns int  // of the text, or of what stands behind its last line feed
			feeds   bool // it has one
		}{
			{"a", 1, false},
			{"abc", 3, false},
			{" ", 1, false},
			{" a ", 3, false},
			{"\t", 1, false},
			{"\r", 1, false},
			{"\x00", 1, false},
			{"\u00e9", 1, false},
			{"\u0301", 0, false},
			{"e\u0301", 1, false},
			{"\u200b\ufe0f", 0, false},
			{"\u65e5", 2, false},
			{"\u65e5\u672c!", 5, false},
			{"\U0001f600", 2, false},
			{"\xff", 1, false},
			{"\xe6\x97", 2, false},
			{"\xa5\xff\u65e5", 4, false},
			{"\xed\xa0\x80", 3, false},
			{"\u2028\u0085", 2, false},
			{"\n", 0, true},
			{"\n\n\n", 0, true},
			{"ab\n", 0, true},
			{"\nab", 2, true},
			{"abc\nde", 2, true},
			{"a\nbcd\n\u65e5\u0301\xff", 3, true},
			{"\u65e5\n ", 1, true},
			{"\xff\n\xff\xff", 2, true},
			{"a\r\nb", 1, true},
		} {
			s := behind(t, h.script)
			column := c.columns
			if !c.feeds {
				column += s.Column()
			}
			name := names(h.script) + ": Text(" + short(c.text) + ")"
			want(t, name, s.Text(c.text), api.OK)
			want(t, name+", Column()", s.Column(), column)
			want(t, name+", Fresh()", s.Fresh(), false)
			want(t, name+", Take()", s.Take(), h.ahead+h.blanks+c.text)
			want(t, name+", Take(), Column()", s.Column(), column)
			s.Text("z")
			want(t, name+", Take(), Text(z), Take()", s.Take(), "z")
			want(t, name+", Take(), Text(z), Column()", s.Column(), column+1)
		}
	}
}

// A text of no bytes changes nothing: the line stays fresh, and the blanks go on waiting.
func TestP6_2TextOfNoBytes(t *testing.T) {
	for _, h := range heads {
		s := behind(t, h.script)
		fresh, column := s.Fresh(), s.Column()
		for range 3 {
			want(t, names(h.script)+": Text()", s.Text(""), api.OK)
			want(t, names(h.script)+", Text(): Fresh()", s.Fresh(), fresh)
			want(t, names(h.script)+", Text(): Column()", s.Column(), column)
		}
		want(t, names(h.script)+", Text(): Take()", s.Take(), h.ahead)
		want(t, names(h.script)+", Text(): Text(z)", s.Text("z"), api.OK)
		want(t, names(h.script)+", Text(), Text(z): Take()", s.Take(), h.blanks+"z")
	}
}

// Two texts are two rows of characters, though their bytes stand behind one another.
func TestP6_2CharactersInTwoTexts(t *testing.T) {
	s := made(t)
	s.Text("\xe6\x97")
	s.Text("\xa5")
	want(t, "Column()", s.Column(), 3)
	want(t, "Take()", s.Take(), "\u65e5")
}

func TestP6_2LongTexts(t *testing.T) {
	long := strings.Repeat("a\u65e5\xff", 100000)
	testScript(t, text(long), blanks(1), text(long+"\n"+long), feed(7), text(long+"\n"))
}

func TestP6_3Blanks(t *testing.T) {
	for _, c := range []struct {
		blanks []int
		sum    int
	}{
		{[]int{0}, 0},
		{[]int{1}, 1},
		{[]int{0, 0, 0}, 0},
		{[]int{1, 1, 1}, 3},
		{[]int{2, 0, 5, 1}, 8},
		{[]int{1048575}, 1048575},
		{[]int{1048576}, 1048576},
		{[]int{1048576, 1, 1048576}, 2097153},
		{[]int{1048576, 1048576, 1048576, 0, 1048576}, 4194304},
	} {
		for _, h := range heads {
			s := behind(t, h.script)
			fresh, column := s.Fresh(), s.Column()
			for _, n := range c.blanks {
				want(t, "Blanks", s.Blanks(n), api.OK)
			}
			want(t, names(h.script)+", Blanks: Column()", s.Column(), column+c.sum)
			want(t, names(h.script)+", Blanks: Fresh()", s.Fresh(), fresh)
			want(t, names(h.script)+", Blanks: Take()", s.Take(), h.ahead)
			s.Text("z")
			if all := s.Take(); all != h.blanks+strings.Repeat(" ", c.sum)+"z" {
				t.Errorf("%s, Blanks%v, Text(z): Take() = %s", names(h.script), c.blanks, short(all))
			}
			want(t, names(h.script)+", Blanks, Text(z): Column()", s.Column(), column+c.sum+1)
			want(t, names(h.script)+", Blanks, Text(z): Fresh()", s.Fresh(), false)
			s.Text("y")
			want(t, names(h.script)+", Blanks, Text(z), Text(y): Take()", s.Take(), "y")
		}
	}
}

// So many blanks may wait that no text behind them could be told: they are a number.
func TestP6_3BlanksBeyondAllTexts(t *testing.T) {
	s := made(t)
	for range 10000 {
		want(t, "Blanks(1048576)", s.Blanks(1048576), api.OK)
	}
	want(t, "Column()", s.Column(), 10485760000)
	s.Feed(2)
	want(t, "Column()", s.Column(), 2)
	want(t, "Take()", s.Take(), "\n")
}

func TestP6_4Feed(t *testing.T) {
	for _, column := range []int{0, 1, 2, 80, 1048575, 1048576} {
		for _, h := range heads {
			s := behind(t, h.script)
			want(t, "Feed", s.Feed(column), api.OK)
			want(t, names(h.script)+", Feed: Column()", s.Column(), column)
			want(t, names(h.script)+", Feed: Fresh()", s.Fresh(), true)
			want(t, names(h.script)+", Feed: Take()", s.Take(), h.ahead+"\n")
			s.Text("z")
			if all := s.Take(); all != strings.Repeat(" ", column)+"z" {
				t.Errorf("%s, Feed(%d), Text(z): Take() = %s", names(h.script), column, short(all))
			}
			want(t, names(h.script)+", Feed, Text(z): Column()", s.Column(), column+1)
			s.Feed(1)
			s.Text("y")
			want(t, names(h.script)+", Feed, Text(z), Feed(1), Text(y): Take()", s.Take(), "\n y")
		}
	}
}

func TestP6_3and4Refused(t *testing.T) {
	for _, n := range outside {
		for _, h := range heads {
			s := behind(t, h.script)
			fresh, column := s.Fresh(), s.Column()
			want(t, names(h.script)+": Blanks", s.Blanks(n), api.ErrArg)
			want(t, names(h.script)+": Feed", s.Feed(n), api.ErrArg)
			want(t, names(h.script)+", refused: Fresh()", s.Fresh(), fresh)
			want(t, names(h.script)+", refused: Column()", s.Column(), column)
			s.Text("z")
			want(t, names(h.script)+", refused, Text(z): Take()", s.Take(), h.ahead+h.blanks+"z")
			want(t, names(h.script)+", refused, Text(z): Column()", s.Column(), column+1)
		}
	}
}

func TestP6_5Empty(t *testing.T) {
	for _, h := range heads {
		for times := range 4 {
			s := behind(t, h.script)
			fresh, column, blanks := s.Fresh(), s.Column(), h.blanks
			feeds := ""
			if fresh && times > 0 {
				// The blanks that waited are gone, and the indent is the one of the line that was left empty.
				feeds = strings.Repeat("\n", times)
				column = indent(h.script)
				blanks = strings.Repeat(" ", column)
			}
			for range times {
				want(t, "Empty()", s.Empty(), api.OK)
			}
			want(t, names(h.script)+", Empty(): Column()", s.Column(), column)
			want(t, names(h.script)+", Empty(): Fresh()", s.Fresh(), fresh)
			want(t, names(h.script)+", Empty(): Take()", s.Take(), h.ahead+feeds)
			s.Text("z")
			want(t, names(h.script)+", Empty(), Text(z): Take()", s.Take(), blanks+"z")
		}
	}
}

// indent is the column of a script's last Feed; of none 0.
func indent(script []step) int {
	p := &page{}
	for _, s := range script {
		s.do(p)
	}
	return p.indent
}

func TestP6_6ColumnAndFreshChangeNothing(t *testing.T) {
	for _, h := range heads {
		s := made(t)
		for _, step := range h.script {
			s.Column()
			s.Fresh()
			step.do(s)
		}
		fresh, column := s.Fresh(), s.Column()
		for range 3 {
			want(t, names(h.script)+": Fresh()", s.Fresh(), fresh)
			want(t, names(h.script)+": Column()", s.Column(), column)
		}
		s.Text("z")
		want(t, names(h.script)+", Text(z): Take()", s.Take(), h.ahead+h.blanks+"z")
	}
}

func TestP6_7Take(t *testing.T) {
	for _, h := range heads {
		s := behind(t, h.script)
		fresh, column := s.Fresh(), s.Column()
		want(t, names(h.script)+": Take()", s.Take(), h.ahead)
		for range 3 {
			want(t, names(h.script)+", Take(): Take()", s.Take(), "")
		}
		want(t, names(h.script)+", Take(): Fresh()", s.Fresh(), fresh)
		want(t, names(h.script)+", Take(): Column()", s.Column(), column)
		s.Text("z")
		want(t, names(h.script)+", Take(), Text(z): Take()", s.Take(), h.blanks+"z")
		want(t, names(h.script)+", Take(), Text(z), Take(): Take()", s.Take(), "")
		s.Feed(1)
		want(t, names(h.script)+", Take(), Feed(1): Take()", s.Take(), "\n")
		s.Empty()
		want(t, names(h.script)+", Take(), Feed(1), Empty(): Take()", s.Take(), "\n")
	}
}

// What was taken stays as it is, whatever is written then.
func TestP6_7TakenTextsStay(t *testing.T) {
	s := made(t)
	var got, wanted []string
	for k := range 200 {
		letter := string(rune('a' + k%26))
		s.Feed(k % 5)
		s.Text(strings.Repeat(letter, k%37+1))
		got = append(got, s.Take())
		wanted = append(wanted, "\n"+strings.Repeat(" ", k%5)+strings.Repeat(letter, k%37+1))
	}
	for k := range got {
		want(t, "Take()", got[k], wanted[k])
	}
}

func TestR2NilSink(t *testing.T) {
	var s *sink.Sink
	for range 2 {
		for _, text := range []string{"", "a", "\n", "\xff"} {
			want(t, "nil: Text", s.Text(text), api.ErrNil)
		}
		for _, n := range append([]int{0, 1, 1048576}, outside...) {
			want(t, "nil: Blanks", s.Blanks(n), api.ErrNil)
			want(t, "nil: Feed", s.Feed(n), api.ErrNil)
		}
		want(t, "nil: Empty()", s.Empty(), api.ErrNil)
		want(t, "nil: Column()", s.Column(), 0)
		want(t, "nil: Fresh()", s.Fresh(), false)
		want(t, "nil: Take()", s.Take(), "")
	}
}
