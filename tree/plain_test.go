package tree_test

import (
	"fmt"
	"slices"
	"strings"

	"colophon/api"
)

// The chapter's words once more, the plain way.

func comment(t api.Tok) bool { return t.Kind == 7 || t.Kind == 8 }

// plainBuild holds the promise's conditions one by one, each against all events.
func plainBuild(l []api.Event) (api.Node, api.Errno) {
	for _, e := range l {
		switch {
		case e.Kind < 1 || e.Kind > 4:
			return api.Node{}, 130
		case e.Kind == api.Open && e.Node == 0:
			return api.Node{}, 130
		case e.Kind == api.Note && !comment(e.Tok), e.Kind == api.Leaf && comment(e.Tok):
			return api.Node{}, 130
		}
	}
	for i := range l {
		if open(l[:i+1]) > 1000 {
			return api.Node{}, 130
		}
	}
	n, ok := plainNode(l)
	if !ok {
		return api.Node{}, 130
	}
	return n, 0
}

// open is how many more nodes are opened than closed.
func open(l []api.Event) int {
	more := 0
	for _, e := range l {
		switch e.Kind {
		case api.Open:
			more++
		case api.Close:
			more--
		}
	}
	return more
}

// plainNode is the node whose events these are: Open of it first, its Close last, between them those of its kids.
func plainNode(l []api.Event) (api.Node, bool) {
	last := len(l) - 1
	if last < 1 || l[0].Kind != api.Open || l[last].Kind != api.Close || l[0].Node != l[last].Node {
		return api.Node{}, false
	}
	n := api.Node{Kind: l[0].Node}
	for rest := l[1:last]; len(rest) > 0; {
		size := plainSize(rest)
		kid, ok := plainKid(rest[:size])
		if !ok {
			return api.Node{}, false
		}
		n.Kids = append(n.Kids, kid)
		rest = rest[size:]
	}
	return n, true
}

// plainSize is how many of the events are the first kid's: those up to where as many nodes are closed as were opened.
func plainSize(l []api.Event) int {
	more := 0
	for i := range l {
		more += open(l[i : i+1])
		if more <= 0 {
			return i + 1
		}
	}
	return len(l)
}

func plainKid(l []api.Event) (api.Node, bool) {
	if len(l) == 1 && (l[0].Kind == api.Leaf || l[0].Kind == api.Note) {
		return api.Node{Tok: l[0].Tok}, true
	}
	return plainNode(l)
}

// plainEvents puts a node's kids, with its Open and its Close, in the place of the node, till none is left.
func plainEvents(n api.Node) []api.Event {
	var l []api.Event
	work := []any{n}
	for len(work) > 0 {
		first := work[0]
		work = work[1:]
		switch x := first.(type) {
		case api.Event:
			l = append(l, x)
		case api.Node:
			switch {
			case x.Kind != 0:
				parts := []any{api.Event{Kind: 1, Node: x.Kind}}
				for _, kid := range x.Kids {
					parts = append(parts, kid)
				}
				work = slices.Concat(parts, []any{api.Event{Kind: 3, Node: x.Kind}}, work)
			case comment(x.Tok):
				l = append(l, api.Event{Kind: 4, Tok: x.Tok})
			default:
				l = append(l, api.Event{Kind: 2, Tok: x.Tok})
			}
		}
	}
	return l
}

// plainToks puts a node's kids in the place of the node, till none is left.
func plainToks(n api.Node) []api.Tok {
	var l []api.Tok
	work := []api.Node{n}
	for len(work) > 0 {
		first := work[0]
		work = work[1:]
		if first.Kind == 0 {
			l = append(l, first.Tok)
			continue
		}
		work = slices.Concat(first.Kids, work)
	}
	return l
}

// plainSame holds against each other what two trees say.
func plainSame(a, b api.Node) bool { return says(a) == says(b) }

// says is all of a tree that counts, as a text.
func says(n api.Node) string {
	if n.Kind == 0 {
		return fmt.Sprintf("%d %q", n.Tok.Kind, n.Tok.Text)
	}
	var kids []string
	for _, kid := range n.Kids {
		if kid.Kind != 0 || !comment(kid.Tok) {
			kids = append(kids, says(kid))
		}
	}
	return fmt.Sprintf("%d(%s)", n.Kind, strings.Join(kids, ", "))
}

// plainDepth goes down a level at a time, as long as there is a node in it.
func plainDepth(n api.Node) int {
	level := []api.Node{n}
	for depth := 0; ; depth++ {
		var nodes, next []api.Node
		for _, x := range level {
			if x.Kind != 0 {
				nodes = append(nodes, x)
				next = append(next, x.Kids...)
			}
		}
		if len(nodes) == 0 {
			return depth
		}
		level = next
	}
}
