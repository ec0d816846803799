package syntax

import (
	"slices"

	"colophon/api"
)

// reader goes through tokens by the rows of the grammar. A node's end is sure only behind all that is in it, so what it
// tells are events, and the tree is made of them when nothing can go wrong any more.
type reader struct {
	l      []api.Tok
	at     int // where the next token stands: it is no comment
	nodes  int // how many are around it
	events []api.Event
}

// stop is what a row gives up with, when it wants a token that is not there.
type stop struct {
	code api.Errno
	at   int
}

// refuse gives up at the next token, which can't stand, or at the end.
func (r *reader) refuse() {
	if r.at == len(r.l) {
		panic(stop{api.ErrParseEnd, r.at})
	}
	panic(stop{api.ErrParseTok, r.at})
}

// node is a row with its node around it.
func (r *reader) node(kind api.NodeKind, row func()) {
	r.nodes++
	r.tell(api.Event{Kind: api.Open, Node: kind})
	row()
	r.tell(api.Event{Kind: api.Close, Node: kind})
	r.nodes--
}

// one is the row of a choice that the next token begins; nil: it begins none.
func (r *reader) one(kind api.NodeKind, row func()) {
	if row == nil {
		r.refuse()
	}
	r.node(kind, row)
}

// next is the token that comes next. At the end it is one that stands nowhere.
func (r *reader) next() api.Tok {
	if r.at == len(r.l) {
		return api.Tok{}
	}
	return r.l[r.at]
}

// nextKey is the next token's text, if it is a word of the language.
func (r *reader) nextKey() string { return r.textOf(api.TokKey) }

// nextSign is the next token's text, if it is a sign.
func (r *reader) nextSign() string { return r.textOf(api.TokSign) }

func (r *reader) textOf(kind api.TokKind) string {
	if t := r.next(); t.Kind == kind {
		return t.Text
	}
	return ""
}

// take lets the next token stand, with the comments behind it: they stand in the same node.
func (r *reader) take() {
	// How deep it is, is asked for last: a token that can't stand at all is never too deep.
	if r.nodes > api.MaxDepth {
		panic(stop{api.ErrParseDeep, r.at})
	}
	r.tell(api.Event{Kind: api.Leaf, Tok: r.l[r.at]})
	r.at++
	r.comments()
}

func (r *reader) comments() {
	for t := r.next(); t.Kind == api.TokLine || t.Kind == api.TokBlock; t = r.next() {
		r.tell(api.Event{Kind: api.Note, Tok: t})
		r.at++
	}
}

func (r *reader) tell(e api.Event) { r.events = append(r.events, e) }

// takeIf tells whether the token stands there, and takes it if so.
func (r *reader) takeIf(stands bool) bool {
	if stands {
		r.take()
	}
	return stands
}

func (r *reader) maybeKey(texts ...string) bool {
	return r.takeIf(slices.Contains(texts, r.nextKey()))
}

func (r *reader) maybeSign(texts ...string) bool {
	return r.takeIf(slices.Contains(texts, r.nextSign()))
}

func (r *reader) maybeName() bool { return r.takeIf(r.next().Kind == api.TokName) }

func (r *reader) key(text string) {
	if !r.maybeKey(text) {
		r.refuse()
	}
}

func (r *reader) sign(text string) {
	if !r.maybeSign(text) {
		r.refuse()
	}
}

func (r *reader) name() {
	if !r.maybeName() {
		r.refuse()
	}
}
