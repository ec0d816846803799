package samples_test

import (
	"strings"
	"testing"

	"colophon/api"
	"colophon/samples"
)

func TestNodeWord(t *testing.T) {
	for word, k := range map[string]api.NodeKind{"Program": api.Program, "Act": api.Act, "Minus": api.Minus, "Value": api.Value, "node 0": 0, "node 33": 33, "node 255": 255} {
		if got := samples.NodeWord(k); got != word {
			t.Errorf("%d: %s, not %s", k, got, word)
		}
		if k > api.Value {
			k = 0
		}
		if got := samples.NodeOf(word); got != k {
			t.Errorf("%s: %d, not %d", word, got, k)
		}
	}
	for k := api.Program; k <= api.Value; k++ {
		if samples.NodeOf(samples.NodeWord(k)) != k {
			t.Errorf("%d: %s", k, samples.NodeWord(k))
		}
	}
}

func TestEventsWord(t *testing.T) {
	a := api.Tok{Kind: api.TokName, Text: "a", Feeds: 2}
	l := []api.Event{
		{Kind: api.Open, Node: api.Act}, {Kind: api.Leaf, Tok: a}, {Kind: api.Close, Node: api.Sum}, {Kind: api.Note, Tok: api.Tok{Text: "{x}"}}, {Kind: 9},
		{Kind: api.Open, Node: api.Act, Tok: a}, {Kind: api.Leaf, Node: api.Act, Tok: a},
	}
	want := `+Act a -Sum note:{x} event 9 +Act(Name "a" 0 0:0 2) a(Act) ErrParseDeep`
	if got := samples.EventsWord(l, api.ErrParseDeep); got != want {
		t.Errorf("%s, not %s", got, want)
	}
	var many []api.Event
	for range 100 {
		many = append(many, l[0])
	}
	want = strings.Repeat("+Act ", 40) + ".. (100 events) .." + strings.Repeat(" +Act", 40)
	if got := samples.EventsWord(many, api.OK); got != want {
		t.Errorf("%s, not %s", got, want)
	}
}
