package style_test

import (
	"slices"
	"strings"
	"testing"

	"colophon/api"
	"colophon/samples"
)

// begun is what comes to wait where such a node is opened.
func begun(kind api.NodeKind) string {
	switch kind {
	case api.Expr, api.Rel, api.Sum, api.Term:
		return "[0"
	case api.Act, api.Param, api.Member:
		return "[2"
	}
	return ""
}

// nodeKinds are all that api has.
func nodeKinds() []api.NodeKind {
	var l []api.NodeKind
	for k := api.Program; k <= api.Value; k++ {
		l = append(l, k)
	}
	return l
}

// texts are those of the table's tokens, and some that it has not.
func texts() []string {
	l := []string{"a", "+", "..", ".", "-", "and", "skip", "return", "Begin", "any", "\u65e5", "\xff"}
	for _, r := range table {
		for _, text := range r.tokens {
			if !slices.Contains(l, text) {
				l = append(l, text)
			}
		}
	}
	return l
}

// Every row of the table, in each of its nodes: ahead of the token and behind it, with and without a block that a ] ends.
func TestP15_2EveryRow(t *testing.T) {
	for _, r := range table {
		for _, kind := range r.nodes {
			for _, text := range r.tokens {
				for _, as := range []string{"key:", "sign:"} {
					open, ahead := begun(kind), r.ahead
					if open == "" {
						ahead = strings.ReplaceAll(ahead, "]", "")
					}
					words := "+Program p +" + samples.NodeWord(kind) + " "
					if r.full {
						words += "; "
						open, ahead = "[e2 H", r.ahead
					}
					words += as + text
					lays(t, words, strings.Join(append(strings.Fields(open+" "+ahead), samples.Short(text)), " "))
					lays(t, words+" b", strings.Join(append(strings.Fields(r.behind), `"b"`), " "))
				}
			}
		}
	}
}

// Each text, in each node, as a token of each kind: where the table has no row there is nothing.
func TestP15_2EveryTokenInEveryNode(t *testing.T) {
	kinds := []api.TokKind{0, api.TokName, api.TokKey, api.TokNumber, api.TokText, api.TokChar, api.TokSign, api.TokLine, api.TokBlock, 9, 255}
	rows := 0
	for _, node := range nodeKinds() {
		for _, text := range texts() {
			for _, kind := range kinds {
				tok := api.Tok{Kind: kind, Text: text}
				token := api.Event{Kind: api.Leaf, Tok: tok}
				l := []api.Event{event("+Program"), event("p"), {Kind: api.Open, Node: node}, token, event("b"), token, event("c"), {Kind: api.Close, Node: node}, event("d"), event("-Program")}
				follows(t, l)
				has := slices.ContainsFunc(table, func(r plainRow) bool { return r.fits(plainNode{kind: node}, tok) })
				if has && (kind == api.TokKey || kind == api.TokSign) {
					rows++
					continue
				}
				s := behind(t, l[:3])
				want := strings.TrimSpace(begun(node) + " " + samples.Short(text))
				if got := put(s, token).String(); got != want {
					t.Errorf("%s in %s lays %s, not %s", samples.TokWord(tok), samples.NodeWord(node), got, want)
				}
				if got := put(s, event("b")).String(); got != `"b"` {
					t.Errorf("behind %s in %s: %s", samples.TokWord(tok), samples.NodeWord(node), got)
				}
			}
		}
	}
	if rows < 200 {
		t.Errorf("just %d of them have a row", rows)
	}
}

// Two of the table's tokens in one node, and its end: a ] ends a block, if there is one, and the end ends all.
func TestP15_2TwoTokensInOneNode(t *testing.T) {
	t.Parallel()
	for _, node := range nodeKinds() {
		for _, a := range texts() {
			for _, b := range texts() {
				for i, kind := range []api.TokKind{api.TokKey, api.TokSign} {
					first := api.Event{Kind: api.Leaf, Tok: api.Tok{Kind: kind, Text: a, Feeds: 2 * i}}
					second := api.Event{Kind: api.Leaf, Tok: api.Tok{Kind: kind, Text: b, Feeds: 2 - 2*i}}
					follows(t, []api.Event{{Kind: api.Open, Node: node}, first, second, first, {Kind: api.Close, Node: node}})
				}
			}
		}
	}
}

// The first `;` of a Proc begins a block, the next one ends it.
func TestP15_2ProcAndItsSemicolons(t *testing.T) {
	lays(t, "+Proc proc f ;", `";"`)
	lays(t, "+Proc proc f ; a", `[e2 H "a"`)
	lays(t, "+Proc proc f ; a ;", `] ";"`)
	lays(t, "+Proc proc f ; a ; b", `H "b"`)
	lays(t, "+Proc proc f ; a ; b ;", `";"`)
	lays(t, "+Proc proc f ; a ; b ; c", `[e2 H "c"`)
	lays(t, "+Proc ; ;", `[e2 H ] ";"`)
	lays(t, "+Proc ; {c} ;", `H ] ";"`)
	lays(t, "+Proc ; {c} ; a", `H "a"`)
	// The block is the Proc's own: what another one has does not count.
	lays(t, "+Proc ; +Proc ;", `[e2 H ";"`)
	lays(t, "+Proc ; +Proc ; a", `[e2 H "a"`)
	lays(t, "+Proc ; +Proc ; -Proc a ;", `] ";"`)
	lays(t, "+Proc +Proc ; -Proc a ; b", `[e2 H "b"`)
}
