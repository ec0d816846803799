package style_test

import (
	"math/rand/v2"
	"testing"

	"colophon/api"
	"colophon/grammar"
	"colophon/samples"
	"colophon/style"
)

// growing holds what each call tells behind events that are all right, and behind each row of them and at most so many of a
// few more; and is how many rows these are. What is refused there is put ahead of what is not.
func growing(t *testing.T, p *plainStyler, l, few []api.Event, more int) (rows int) {
	rows = 1
	ready := func() *style.Styler {
		s := behind(t, l)
		for _, e := range few {
			if p.refuses(e) {
				refused(t, s, e)
			}
		}
		return s
	}
	if got, want := closed(ready()), p.copied().close(); !got.same(want) {
		t.Fatalf("%s\n at Close: %s\n      not %s", samples.EventsWord(l, api.OK), got, want)
	}
	for _, e := range few {
		if more == 0 || p.refuses(e) {
			continue
		}
		next := p.copied()
		if got, want := put(ready(), e), next.put(e); !got.same(want) {
			t.Fatalf("%s and then %s: %s\n not %s", samples.EventsWord(l, api.OK), samples.EventWord(e), got, want)
		}
		rows += growing(t, next, append(l[:len(l):len(l)], e), few, more-1)
	}
	return rows
}

// All rows of few events, over events, nodes and tokens of few kinds.
func TestP15_2AllRowsOfFewEvents(t *testing.T) {
	for name, c := range map[string]struct {
		few  string
		most int
	}{
		"statements": {"+Body -Body +Skip +Act -Act ; a a^2 {c} {c}^2 //c", 6},
		"blocks":     {"+Block -Block +Proc -Proc begin end ; a^2 {c} {c}^1", 6},
		"returns":    {"+Return -Return +Expr -Expr return a {c} {c}^1 //c", 6},
		"args":       {"+Args -Args +Expr -Expr ( , ) + a {c} //c^2", 6},
		"types":      {"+Var -Var +Record +Member -Member var record : ; end a^2 {c}", 5},
		"ifs":        {"+If -If +Skip if then elif else end a^2 {c}", 6},
		"loops":      {"+For +While +Repeat -Repeat for := to do while until end {c}^1", 5},
		"params":     {"+Params -Params +Param -Param ( ; : , ) a {c}", 5},
		"programs":   {"+Program -Program program ; a^2 +Const -Const = {c} //c", 6},
		"few":        {"+Act -Act begin a^2 {c} {c}^2", 7},
		"fewer":      {"+Group -Group ( a {c}", 8},
		"fewest":     {"+Expr a {c}^2 -Expr", 9},
	} {
		t.Run(name, func(t *testing.T) {
			t.Parallel()
			if rows := growing(t, newPlain(), nil, events(c.few), c.most); rows < 5000 {
				t.Errorf("just %d rows", rows)
			}
		})
	}
}

// some is an event that can come behind others; pick says which of n comes next.
func some(pick func(n int) int, p *plainStyler, words []string, most int) api.Event {
	if n := len(p.nodes); n > 0 && pick(3) > 0 {
		switch k := pick(8); {
		case k == 0 || n > most:
			return api.Event{Kind: api.Close, Node: p.inner().kind}
		case k < 6:
			e := event(words[pick(len(words))])
			e.Tok.Feeds = pick(4)
			if pick(2) == 0 {
				// A token that the node has a row for.
				r := table[pick(len(table))]
				for range 20 {
					if !r.fits(*p.inner(), tokOf(r.tokens[0])) {
						r = table[pick(len(table))]
					}
				}
				e.Kind, e.Tok.Kind, e.Tok.Text = api.Leaf, api.TokKey, r.tokens[pick(len(r.tokens))]
			}
			return e
		}
	}
	if len(p.nodes) > most {
		return api.Event{Kind: api.Close, Node: p.inner().kind}
	}
	return api.Event{Kind: api.Open, Node: api.NodeKind(1 + pick(int(api.Value)))}
}

// Longer rows, over all nodes and all of the table's tokens, whether a program has them or not.
func TestP15_2SomeRows(t *testing.T) {
	t.Parallel()
	r := rand.New(rand.NewPCG(15, 1))
	words := append(texts(), "{c}", "//c", "{d\ne}")
	for range 4000 {
		p, s := newPlain(), style.New()
		var l []api.Event
		for range 5 + r.IntN(120) {
			e := some(r.IntN, p, words, 8)
			if r.IntN(20) == 0 {
				e = wrongs()[r.IntN(len(wrongs()))]
			}
			l = append(l, e)
			if got, want := put(s, e), p.put(e); !got.same(want) {
				t.Fatalf("%s\n at the last: %s\n not %s", samples.EventsWord(l, api.OK), got, want)
			}
		}
		for len(p.nodes) > 0 {
			e := api.Event{Kind: api.Close, Node: p.inner().kind}
			p.put(e)
			put(s, e)
		}
		if got, want := closed(s), p.close(); !got.same(want) {
			t.Fatalf("%s\n at Close: %s\n not %s", samples.EventsWord(l, api.OK), got, want)
		}
	}
}

// The events of programs, with comments and any Feeds.
func TestP15_2Programs(t *testing.T) {
	t.Parallel()
	g := grammar.New()
	r := rand.New(rand.NewPCG(15, 2))
	for _, source := range samples.Programs() {
		follows(t, eventsOf(tokens(source)))
	}
	for size := range 300 {
		l := samples.Noted(g.Some(r.IntN, 2*size), func(int) int { return max(0, r.IntN(9)-6) })
		for i := range l {
			l[i].Feeds = max(0, r.IntN(6)-2)
		}
		follows(t, eventsOf(l))
	}
}
