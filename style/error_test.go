package style_test

import (
	"strings"
	"testing"

	"colophon/api"
	"colophon/samples"
	"colophon/style"
)

// refused holds that a styler refuses an event with ErrTreeForm, and tells nothing.
func refused(t *testing.T, s *style.Styler, e api.Event) {
	t.Helper()
	if got := put(s, e); !got.same(answer{code: api.ErrTreeForm}) {
		t.Errorf("%s: %s, not ErrTreeForm", samples.EventWord(e), got)
	}
}

// Kinds that are none, outside and within a node, with all else right.
func TestP15_2NoKind(t *testing.T) {
	for _, s := range []*style.Styler{style.New(), behind(t, events("+Skip")), behind(t, events("+Skip a +Group ("))} {
		for _, kind := range []api.EventKind{0, 5, 6, 100, 255} {
			for _, tok := range []api.Tok{{}, tokOf("a"), tokOf("{c}"), tokOf("begin")} {
				for _, node := range []api.NodeKind{0, api.Skip, api.Group, 33} {
					refused(t, s, api.Event{Kind: kind, Node: node, Tok: tok})
				}
			}
		}
	}
}

// Nodes that are none of api's, and all that are.
func TestP15_2NoNode(t *testing.T) {
	for n := range 256 {
		node := api.NodeKind(n)
		for _, words := range []string{"", "+Skip", "+Return return", "+Args ("} {
			s, e := behind(t, events(words)), api.Event{Kind: api.Open, Node: node, Tok: tokOf("a")}
			if n >= 1 && n <= 32 {
				if got := put(s, e); !got.same(answer{}) {
					t.Errorf("Open of %s: %s", samples.NodeWord(node), got)
				}
				continue
			}
			refused(t, s, e)
			refused(t, s, api.Event{Kind: api.Close, Node: node})
		}
	}
}

// A Close of each node, with each one innermost, and with none.
func TestP15_2CloseOfAnother(t *testing.T) {
	for _, inner := range nodeKinds() {
		for n := range 256 {
			e := api.Event{Kind: api.Close, Node: api.NodeKind(n)}
			refused(t, style.New(), e)
			s := behind(t, []api.Event{{Kind: api.Open, Node: api.Block}, {Kind: api.Open, Node: inner}})
			if api.NodeKind(n) != inner {
				refused(t, s, e)
				continue
			}
			if got := put(s, e); !got.same(answer{}) {
				t.Errorf("Close of %s: %s", samples.NodeWord(inner), got)
			}
		}
	}
	s := behind(t, events("+Block +Body -Body -Block"))
	for _, e := range events("-Body -Block") {
		refused(t, s, e)
	}
}

// Tokens and comments outside of every node: at the front, and behind the last one.
func TestP15_2OutsideOfNodes(t *testing.T) {
	for _, words := range []string{"", "+Program -Program", "+Program program p ; -Program", "+Skip +Expr -Expr -Skip"} {
		for _, e := range events("a begin ; {c} //c {c}^1 //c^2 a^2") {
			s := behind(t, events(words))
			refused(t, s, e)
			if got := closed(s); got.code != api.OK {
				t.Errorf("Close behind %s: %s", samples.EventWord(e), got)
			}
		}
	}
}

// Texts that may stand in a piece, and others, of tokens and of comments.
func TestP15_2Texts(t *testing.T) {
	good := []string{
		"a", "\x00", "\t", "\r", "\xff", "\u00a0", "a b", "a\nb", "\ta\t", "\ra\r", "// a", "{ \n }",
		strings.Repeat("a", api.MaxTok), strings.Repeat("a", api.MaxTok-1), "a" + strings.Repeat(" ", api.MaxTok-2) + "b", strings.Repeat("\u65e5", api.MaxTok/3),
	}
	wrong := []string{
		"", " ", "\n", "  ", " \n", "\n ", " a", "\na", "a ", "a\n", "a \n", " a ", "\n\n", "// ", "{}\n",
		strings.Repeat("a", api.MaxTok+1), strings.Repeat("\u65e5", api.MaxTok/3+1), strings.Repeat("a", 1<<20), " " + strings.Repeat("a", api.MaxTok-1), strings.Repeat("a", api.MaxTok-1) + "\n",
	}
	for _, kind := range []api.EventKind{api.Leaf, api.Note} {
		for _, tok := range []api.Tok{{Kind: api.TokLine}, {Kind: api.TokBlock, Feeds: 2}} {
			s := behind(t, events("+Program p"))
			for _, text := range wrong {
				tok.Text = text
				refused(t, s, api.Event{Kind: kind, Tok: tok})
			}
			for _, text := range good {
				tok.Text = text
				got := put(s, api.Event{Kind: kind, Tok: tok})
				if last := len(got.laid) - 1; got.code != api.OK || last < 0 || got.laid[last] != (api.Doc{Kind: api.Text, Text: text}) {
					t.Errorf("%s: %s", samples.Short(text), got)
				}
			}
		}
	}
}

// A Note's token is a comment; a Leaf's may be any.
func TestP15_2NotesOfOtherTokens(t *testing.T) {
	for k := range 256 {
		kind := api.TokKind(k)
		tok := api.Tok{Kind: kind, Text: "{c}"}
		if got := put(behind(t, events("+Skip")), api.Event{Kind: api.Leaf, Tok: tok}); got.code != api.OK {
			t.Errorf("a Leaf of kind %d: %s", kind, got)
		}
		e := api.Event{Kind: api.Note, Tok: tok}
		if kind != api.TokLine && kind != api.TokBlock {
			refused(t, behind(t, events("+Skip")), e)
			continue
		}
		if got := put(behind(t, events("+Skip")), e); got.code != api.OK {
			t.Errorf("a Note of kind %d: %s", kind, got)
		}
	}
}

// wrongs are events that are refused wherever Skip is not innermost, or nothing is open.
func wrongs() []api.Event {
	long := strings.Repeat("a", api.MaxTok+1)
	return []api.Event{
		{}, {Kind: 5, Node: api.Body, Tok: tokOf("a")}, {Kind: api.Open}, {Kind: api.Open, Node: 33}, {Kind: api.Open, Node: 255}, {Kind: api.Close}, {Kind: api.Close, Node: 33},
		{Kind: api.Close, Node: api.Skip}, {Kind: api.Leaf}, {Kind: api.Leaf, Tok: api.Tok{Kind: api.TokKey, Text: " begin", Feeds: 2}}, {Kind: api.Leaf, Tok: api.Tok{Kind: api.TokSign, Text: ";\n"}},
		{Kind: api.Leaf, Tok: api.Tok{Kind: api.TokName, Text: long}}, {Kind: api.Note}, {Kind: api.Note, Tok: tokOf("begin")}, {Kind: api.Note, Tok: api.Tok{Kind: api.TokLine, Text: "// "}},
		{Kind: api.Note, Tok: api.Tok{Kind: api.TokBlock, Text: long, Feeds: 2}}, {Kind: api.Note, Tok: api.Tok{Kind: api.TokBlock}},
	}
}

// What is refused changes nothing: between any two events of programs, and ahead of Close.
func TestP15_2RefusedChangesNothing(t *testing.T) {
	for _, source := range samples.Programs() {
		l := samples.Noted(tokens(strings.ReplaceAll(source, "skip", "s")), func(at int) int { return at % 3 })
		p, s := newPlain(), style.New()
		for _, e := range eventsOf(l) {
			for _, no := range wrongs() {
				refused(t, s, no)
			}
			if len(p.nodes) > 0 {
				if got := closed(s); !got.same(answer{code: api.ErrTreeForm}) {
					t.Fatalf("Close within a node: %s", got)
				}
			}
			if got, want := put(s, e), p.put(e); !got.same(want) {
				t.Fatalf("%s: %s, not %s", samples.EventWord(e), got, want)
			}
		}
		for _, no := range append(wrongs(), event("a"), event("{c}"), event("-Program")) {
			refused(t, s, no)
		}
		if got, want := closed(s), p.close(); !got.same(want) {
			t.Fatalf("Close: %s, not %s", got, want)
		}
	}
}

// Behind a Close that is OK all is ErrDone; behind one that is not it goes on.
func TestP15_1Done(t *testing.T) {
	for _, words := range []string{"", "+Program program p -Program", "+Skip -Skip", "+Program //c -Program", "+Block begin -Block"} {
		s := behind(t, events(words))
		if got := closed(s); got.code != api.OK {
			t.Fatalf("%s: %s", words, got)
		}
		for range 2 {
			for _, e := range append(wrongs(), events("+Program a {c} -Program")...) {
				if got := put(s, e); !got.same(answer{code: api.ErrDone}) {
					t.Errorf("%s behind Close: %s", samples.EventWord(e), got)
				}
			}
			if got := closed(s); !got.same(answer{code: api.ErrDone}) {
				t.Errorf("Close behind Close: %s", got)
			}
		}
	}
}

func TestP15_3CloseWithinANode(t *testing.T) {
	l := events("+Program program {c} p ; //d +Block begin end -Block .")
	for i := 1; i <= len(l); i++ {
		s := behind(t, l[:i])
		for range 3 {
			if got := closed(s); !got.same(answer{code: api.ErrTreeForm}) {
				t.Errorf("behind %s: %s", samples.EventsWord(l[:i], api.OK), got)
			}
		}
		if i < len(l) {
			if got, want := put(s, l[i]), put(behind(t, l[:i]), l[i]); !got.same(want) {
				t.Errorf("%s behind such a Close: %s, not %s", samples.EventWord(l[i]), got, want)
			}
		}
	}
	s := behind(t, l)
	closed(s)
	put(s, event("-Program"))
	if got := closed(s).String(); got != "H" {
		t.Errorf("Close: %s", got)
	}
}

func TestR2NilStyler(t *testing.T) {
	var s *style.Styler
	for range 2 {
		for _, e := range append(wrongs(), events("+Program a {c} -Program")...) {
			if got := put(s, e); !got.same(answer{code: api.ErrNil}) {
				t.Errorf("%s: %s", samples.EventWord(e), got)
			}
		}
		if got := closed(s); !got.same(answer{code: api.ErrNil}) {
			t.Errorf("Close: %s", got)
		}
	}
}
