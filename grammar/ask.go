package grammar

import (
	"cmp"
	"slices"

	"colophon/api"
)

// Begins tells whether some program begins with such tokens (none of them a comment).
func (g *Grammar) Begins(l []api.Tok) bool {
	w := way{g: g, l: l, beginning: true}
	return w.program(func(*step) bool { return true })
}

// Events are those of a program's tree; ways: how many trees it has (0: it is no program).
func (g *Grammar) Events(l []api.Tok) (events []api.Event, ways int) {
	w := way{g: g, l: l}
	w.program(func(last *step) bool {
		events = last.events()
		ways++
		return false
	})
	return events, ways
}

// Ended is a program that begins with such tokens, and some that end it soon; nil: none begins so.
func (g *Grammar) Ended(l []api.Tok) []api.Tok {
	var all []api.Tok
	w := way{g: g, l: l, filling: true}
	w.program(func(last *step) bool {
		for _, e := range last.events() {
			if e.Kind == api.Leaf {
				all = append(all, e.Tok)
			}
		}
		return true
	})
	return all
}

// Words are a token of each sort that the rows have.
func (g *Grammar) Words() []api.Tok {
	var l []api.Tok
	for _, it := range g.named {
		l = gather(it, l)
	}
	slices.SortFunc(l, compare)
	return slices.Compact(l)
}

func gather(it item, l []api.Tok) []api.Tok {
	if it.kind == token {
		return append(l, it.tok)
	}
	for _, part := range it.parts {
		l = gather(part, l)
	}
	return l
}

func compare(a, b api.Tok) int {
	return cmp.Or(cmp.Compare(a.Kind, b.Kind), cmp.Compare(a.Text, b.Text))
}

// step is an event, and those ahead of it.
type step struct {
	ahead *step
	event api.Event
}

func (s *step) events() []api.Event {
	var l []api.Event
	for ; s != nil; s = s.ahead {
		l = append(l, s.event)
	}
	slices.Reverse(l)
	return l
}

// way goes through all ways to have the tokens by the rows.
type way struct {
	g         *Grammar
	l         []api.Tok
	beginning bool // where a token is wanted behind the last one, they can begin so
	filling   bool // where one is wanted there, one is made up
}

// rest goes on behind an item: at the token at, with what was told; true: nothing more is wanted.
type rest func(at int, told *step) bool

func (w *way) program(then func(last *step) bool) bool {
	return w.try(item{kind: call, name: "Program"}, 0, nil, func(at int, told *step) bool {
		return at == len(w.l) && then(told)
	})
}

func (w *way) try(it item, at int, told *step, then rest) bool {
	switch it.kind {
	case token:
		return w.token(it.tok, at, told, then)
	case call:
		return w.try(w.g.named[it.name], at, told, then)
	case named:
		return w.node(it, at, told, then)
	case row:
		return w.row(it.parts, at, told, then)
	case choice:
		return w.choice(it.parts, at, told, then)
	case many:
		return w.many(it.parts[0], at, told, then)
	}
	return w.more(at) && w.try(it.parts[0], at, told, then) || then(at, told)
}

func (w *way) token(want api.Tok, at int, told *step, then rest) bool {
	leaf := api.Event{Kind: api.Leaf, Tok: want}
	if at == len(w.l) {
		return w.beginning || w.filling && then(at, &step{told, leaf})
	}
	leaf.Tok = w.l[at]
	return like(want, leaf.Tok) && then(at+1, &step{told, leaf})
}

func (w *way) node(it item, at int, told *step, then rest) bool {
	if it.node == 0 {
		return w.try(it.parts[0], at, told, then)
	}
	told = &step{told, api.Event{Kind: api.Open, Node: it.node}}
	return w.try(it.parts[0], at, told, func(at int, told *step) bool {
		return then(at, &step{told, api.Event{Kind: api.Close, Node: it.node}})
	})
}

func (w *way) row(parts []item, at int, told *step, then rest) bool {
	if len(parts) == 0 {
		return then(at, told)
	}
	return w.try(parts[0], at, told, func(at int, told *step) bool {
		return w.row(parts[1:], at, told, then)
	})
}

func (w *way) choice(parts []item, at int, told *step, then rest) bool {
	if !w.more(at) {
		parts = parts[:1]
	}
	for _, part := range parts {
		if w.try(part, at, told, then) {
			return true
		}
	}
	return false
}

func (w *way) many(part item, at int, told *step, then rest) bool {
	again := func(at int, told *step) bool { return w.many(part, at, told, then) }
	return w.more(at) && w.try(part, at, told, again) || then(at, told)
}

// more tells whether something may stand there that can be left out: what is made up has no more than it must.
func (w *way) more(at int) bool { return !w.filling || at < len(w.l) }
