package parse

import (
	"slices"

	"colophon/api"
)

// state is a small part of what is still to come: what it makes of the next token. It has been taken off when it is asked.
type state func(t api.Tok) deed

// deed is what a state has made of a token.
type deed int

const (
	refused deed = iota // it can't stand here
	passed              // it is for what is to come next now
	taken               // it stands here
)

// expect lets a row of states come next.
func (p *Parser) expect(row ...state) deed {
	for _, s := range slices.Backward(row) {
		p.states = append(p.states, s)
	}
	return passed
}

// open begins a node: its row comes next, and behind that its end.
func (p *Parser) open(node api.NodeKind, row ...state) deed {
	p.tell(api.Event{Kind: api.Open, Node: node})
	p.nodes++
	p.expect(ending{p, node}.leave)
	return p.expect(row...)
}

// ending is a node's end. It waits for the first token behind the node, as the node is open up to there.
type ending struct {
	p    *Parser
	node api.NodeKind
}

func (e ending) leave(api.Tok) deed {
	e.p.tell(api.Event{Kind: api.Close, Node: e.node})
	e.p.nodes--
	return passed
}

// word is one token: a word or a sign of the language, by its text.
type word struct {
	kind  api.TokKind
	texts []string // any of them may stand there
}

func (w word) stand(t api.Tok) deed {
	return takenIf(t.Kind == w.kind && slices.Contains(w.texts, t.Text))
}

func key(texts ...string) state { return word{api.TokKey, texts}.stand }

func sign(texts ...string) state { return word{api.TokSign, texts}.stand }

func name(t api.Tok) deed { return takenIf(t.Kind == api.TokName) }

func constant(t api.Tok) deed {
	return takenIf(t.Kind == api.TokNumber || t.Kind == api.TokText || t.Kind == api.TokChar)
}

func takenIf(stands bool) deed {
	if stands {
		return taken
	}
	return refused
}

// part is what may be left out: it is there if the next token can begin it.
type part struct {
	p    *Parser
	pick func(t api.Tok) state // what a token begins; nil: it begins none
}

func (x part) once(t api.Tok) deed {
	s := x.pick(t)
	if s == nil {
		return passed
	}
	return x.p.expect(s)
}

func (x part) again(t api.Tok) deed {
	s := x.pick(t)
	if s == nil {
		return passed
	}
	return x.p.expect(s, x.again)
}

// maybe is a row that is there once or not at all. Its first state is a token's.
func (p *Parser) maybe(row ...state) state { return part{p, p.begun(row)}.once }

// many is such a row that is there any number of times.
func (p *Parser) many(row ...state) state { return part{p, p.begun(row)}.again }

func (p *Parser) begun(row []state) func(api.Tok) state {
	all := func(api.Tok) deed { return p.expect(row...) }
	return func(t api.Tok) state {
		if row[0](t) != taken {
			return nil
		}
		return all
	}
}
