package style_test

import (
	"fmt"
	"slices"
	"strings"
	"testing"

	"colophon/samples"
)

// marking are the nodes ahead of which an empty line may stand.
const marking = "Var Const Proc Member Skip Act If While For Repeat Return Compound"

// Open of each node: with a mark where it makes one, and with none where it does not.
func TestP15_2OpenMarks(t *testing.T) {
	for _, kind := range nodeKinds() {
		word, e := samples.NodeWord(kind), ""
		if slices.Contains(strings.Fields(marking), word) {
			e = "E "
		}
		own := strings.TrimLeft(begun(kind)+" ", " ")
		lays(t, "+Program p +"+word+" a^2", e+own+`"a"`)
		// Behind what waits, whatever that is but a Begin.
		lays(t, "+Program ; +"+word+" a^2", "H "+e+own+`"a"`)
		lays(t, "+Program program +"+word+" a^2", "S "+e+own+`"a"`)
		lays(t, "+Program +Expr p -Expr +"+word+" a^2", "] "+e+own+`"a"`)
		lays(t, "+Program +Block begin -Block ; +"+word+" a^2", "H "+e+own+`"a"`)
		// With a Begin ahead of it, at the front of what waits or not.
		lays(t, "+Program p +Expr +"+word+" a^2", "[0 "+own+`"a"`)
		lays(t, "+Program +Block begin +"+word+" a^2", "[e2 H "+own+`"a"`)
		lays(t, "+Program +Var var -Var +"+word+" a^2", "S [4 ] "+own+`"a"`)
		lays(t, "+Program p +Expr -Expr +"+word+" a^2", "[0 ] "+own+`"a"`)
		// With one there it stays where it is: a second one would have a Begin ahead.
		lays(t, "+Program p +Act +"+word+" a^2", "E [2 "+own+`"a"`)
		lays(t, "+Program p +Skip +Expr +"+word+" a^2", "E [0 "+own+`"a"`)
		lays(t, "+Program p +Skip -Skip +Expr -Expr +"+word+" a^2", "E [0 ] "+own+`"a"`)
		// With one that is not there any more it is made anew.
		lays(t, "+Program p +Skip b +"+word+" a^2", e+own+`"a"`)
		lays(t, "+Program p +Skip b^2 +"+word+" a^2", e+own+`"a"`)
		lays(t, "+Program p +Skip {c} +"+word+" a^2", e+own+`S "a"`)
		lays(t, "+Program p +Act {c} +"+word+" a^2", e+own+`S "a"`)
	}
}

// How many line feeds there are, at tokens: ahead of the first Text and behind it, be that a token's or a comment's.
func TestP15_2FeedsOfTokens(t *testing.T) {
	for feeds, e := range map[int]string{-1 << 63: "", -2: "", -1: "", 0: "", 1: "", 2: "E ", 3: "E ", 99: "E ", 1<<63 - 1: "E "} {
		for _, c := range [][2]string{
			{"+Program p +Skip a", e + `"a"`},
			{"+Program program p ; +Skip a", "H " + e + `"a"`},
			{"+Program +Skip a", `"a"`},
			{"+Program +Act a", `[2 "a"`},
			{"+Program p +Expr +Skip a", `[0 "a"`},
			{"+Program p a", `"a"`},
			{"+Program p +Object a", `"a"`},
			{"+Program {c} +Skip a", "H " + e + `"a"`},
			{"+Program //c +Skip a", "H " + e + `"a"`},
			{"+Program +Skip {c} a", `H "a"`},
			{"+Program +Skip {c} -Skip +Skip a", "H " + e + `"a"`},
			{"+Program p {c} +Skip a", e + `S "a"`},
			{"+Program ; {c} +Skip a", "H " + e + `"a"`},
			{"+Program +Block begin {c} +Skip a", "H " + e + `"a"`},
			{"+Program +Block begin {c}^2 +Skip a", "H " + e + `"a"`},
			// What stands ahead of the token comes to wait behind the mark.
			{"+Program p +Skip +Block end", e + `H "end"`},
			{"+Program p +Act +If end", e + `[2 H "end"`},
		} {
			l := events(c[0])
			l[len(l)-1].Tok.Feeds = feeds
			if got := put(behind(t, l[:len(l)-1]), l[len(l)-1]).String(); got != c[1] {
				t.Errorf("%s, %d line feeds: %s, not %s", c[0], feeds, got, c[1])
			}
		}
	}
}

// The mark is gone behind a token and a comment, whatever they lay.
func TestP15_2TheMarkGoes(t *testing.T) {
	lays(t, "+Program p +Skip a b^2", `"b"`)
	lays(t, "+Program p +Skip a^2 b^2", `"b"`)
	lays(t, "+Program +Skip a b^2", `"b"`)
	lays(t, "+Program p +Skip {c} b^2", `S "b"`)
	lays(t, "+Program p +Skip {c}^2 b^2", `H "b"`)
	lays(t, "+Program p +Skip //c b^2", `H "b"`)
	lays(t, "+Program p +Skip -Skip b^2", `E "b"`)
	lays(t, "+Program p +Block +Skip -Skip -Block +Body b^2", `E "b"`)
}

// How many line feeds there are, at comments: ahead of the first Text and behind it, with and without Begins laid with it.
func TestP15_2FeedsOfComments(t *testing.T) {
	for feeds, alone := range map[int]string{-1 << 63: "H ", -1: "H ", 0: "S ", 1: "H ", 2: "H E ", 3: "H E ", 99: "H E ", 1<<63 - 1: "H E "} {
		one := strings.ReplaceAll(alone, "E ", "") // without an empty line
		for _, c := range [][2]string{
			{"+Program", "H "},
			{"+Program +Expr", "[0 H "},
			{"+Program +Block", "H "},
			{"+Program p", alone},
			{"+Program program", alone},
			{"+Program ;", alone},
			{"+Program p +Skip", alone},
			{"+Program p +Expr", "[0 " + one},
			{"+Program +Block begin", "[e2 " + one},
			{"+Program +Block begin +Body +Skip", "[e2 " + one},
			{"+Program p +Expr +Rel +Act", "[0 [0 [2 " + one},
			{"+Program +Var var", alone},
			{"+Program +Return return +Expr", alone},
			{"+Program +Block begin a", alone},
			{"+Program +Block begin {c}", alone},
			{"+Program +Block begin {c} +Act", alone},
			{"+Program p {c}", alone},
			{"+Program p {c} +Act", "[2 " + one},
			{"+Program p //c", alone},
			{"+Program {c}", alone},
			{"+Program {c}^2 {c}^2", alone},
			{"+Program //c", alone},
			{"+Program +Group ( -Group", "[1 " + one},
		} {
			for _, text := range []string{"{d}", "//d"} {
				e := event(text)
				e.Tok.Feeds = feeds
				want := fmt.Sprintf("%s%q", c[1], text)
				if got := put(behind(t, events(c[0])), e).String(); got != want {
					t.Errorf("%s, %s, %d line feeds: %s, not %s", c[0], text, feeds, got, want)
				}
			}
		}
	}
}
