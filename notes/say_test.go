package notes_test

import (
	"fmt"
	"strings"
	"testing"

	"colophon/api"
	"colophon/format"
	"colophon/notes"
	"colophon/samples"
	"colophon/scan"
)

// remarkWord tells a remark: how many tokens are ahead, whether it is behind one in its line or alone, its bytes.
func remarkWord(r api.Remark) string {
	where := "alone"
	if r.Behind {
		where = "behind"
	}
	return fmt.Sprint(r.Ahead, " ", where, " ", r.Text)
}

// remarks tells what Of answers: the remarks, or the error and its place.
func remarks(source string) string {
	l, err := notes.Of(source)
	var words []string
	for _, r := range l {
		words = append(words, remarkWord(r))
	}
	if err != nil {
		words = append(words, samples.FaultWord(err))
	}
	return strings.Join(words, "; ")
}

// answer is what Strip tells: the text, or what is wrong.
type answer struct{ text, wrong string }

func (a answer) String() string { return samples.Short(a.text) + " " + a.wrong }

func stripped(source string) answer {
	text, err := notes.Strip(source)
	return answer{text, samples.FaultWord(err)}
}

// holdsOf holds what Of tells of a source.
func holdsOf(t *testing.T, source, want string) {
	t.Helper()
	if got := remarks(source); got != want {
		t.Errorf("Of(%s): %s, not %s", samples.Short(source), samples.Short(got), samples.Short(want))
	}
}

// holdsStrip holds what Strip tells of a source that it takes.
func holdsStrip(t *testing.T, source, want string) {
	t.Helper()
	if got := stripped(source); got != (answer{text: want}) {
		t.Errorf("Strip(%s): %s, not %s", samples.Short(source), got, samples.Short(want))
	}
}

// told is what format tells of a source that it takes.
func told(t testing.TB, width int, source string) string {
	t.Helper()
	s, err := format.Format(width, source)
	if err != nil {
		t.Fatalf("%s at %d: %v", samples.Short(source), width, err)
	}
	return s
}

// tokens are those of a source that has no error.
func tokens(source string) []api.Tok {
	l, code, at := scan.All(source)
	if code != api.OK {
		panic(fmt.Sprintf("%q: %s", source, samples.FaultAt(code, at)))
	}
	return l
}

// shortSources goes through all sources of at most so many parts, in several tests at once, one for each first part.
func shortSources(t *testing.T, parts []string, most int, look func(t *testing.T, source string)) {
	look(t, "")
	for _, first := range parts {
		t.Run("", func(t *testing.T) {
			t.Parallel()
			for s := range samples.Texts(parts, most-1) {
				look(t, first+s)
			}
		})
	}
}

// noteParts are those of which sources with comments of all sorts are made.
func noteParts() []string {
	return []string{"a", "\"{\"", "'", "/", "//", "{", "}", "{x}", " ", "\n", "\xc3"}
}

// wrong is a source, and what is wrong with it.
type wrong struct{ source, want string }

// wrongs are sources with every error that scan has, with and without tokens and comments ahead of it.
func wrongs() []wrong {
	long := strings.Repeat("a", api.MaxTok+1)
	return []wrong{
		{"?", "ErrScanByte at 0 1:1"},
		{"a {b} //c\n {d\n}\u00e9 ?", "ErrScanByte at 18 3:4"},
		{"a}", "ErrScanByte at 1 1:2"},
		{"{a}}", "ErrScanByte at 3 1:4"},
		{"\u65e5\xff{a}", "ErrScanByte at 3 1:2"},
		{"{a}\x01//b", "ErrScanByte at 3 1:4"},
		{"{", "ErrScanOpen at 0 1:1"},
		{"a {b", "ErrScanOpen at 2 1:3"},
		{"//a\n{b}\u65e5{c\n//d\n\"e\"", "ErrScanOpen at 10 2:5"},
		{"{a}\"{b}", "ErrScanOpen at 3 1:4"},
		{"\"//a\n\"", "ErrScanOpen at 0 1:1"},
		{"//a\n'", "ErrScanOpen at 4 2:1"},
		{"{a}\"\u00e9\t\"", "ErrScanText at 6 1:6"},
		{"{a}''", "ErrScanText at 4 1:5"},
		{"'//'", "ErrScanText at 2 1:3"},
		{"{a}\n" + long, "ErrScanLong at 4 2:1"},
		{"a //" + long[2:], "ErrScanLong at 2 1:3"},
		{"a //" + strings.Repeat(" ", api.MaxTok-1), "ErrScanLong at 2 1:3"},
		{"a {" + long[2:] + "}", "ErrScanLong at 2 1:3"},
		{"{" + strings.Repeat("\n", api.MaxTok), "ErrScanLong at 0 1:1"},
	}
}
