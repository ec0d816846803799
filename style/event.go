package style

import (
	"slices"

	"colophon/api"
)

// open begins a node.
func (s *Styler) open(kind api.NodeKind) {
	if len(s.nodes) > 0 && kind == api.Expr {
		s.openExprIn(s.inner())
	}
	if hasLines(kind) && !s.marked {
		s.marked, s.mark = true, len(s.waits)
	}
	s.nodes = append(s.nodes, node{kind: kind})
	switch kind {
	case api.Expr, api.Rel, api.Sum, api.Term:
		s.begin(0, false)
	case api.Act, api.Param, api.Member:
		s.begin(2, false)
	}
}

// openExprIn lets what stands ahead of an Expr in a node come to wait.
func (s *Styler) openExprIn(around *node) {
	switch {
	case around.kind == api.Return:
		blankIn3(s)
	case around.kind == api.Args && !around.filled:
		s.wait(api.Doc{Kind: api.Break})
	}
	around.filled = true
}

// hasLines tells whether a node stands in lines of its own, so that an empty one may stand ahead of it.
func hasLines(kind api.NodeKind) bool {
	switch kind {
	case api.Var, api.Const, api.Proc, api.Member,
		api.Skip, api.Act, api.If, api.While, api.For, api.Repeat, api.Return, api.Compound:
		return true
	}
	return false
}

// leave ends the innermost node.
func (s *Styler) leave() {
	n := s.inner()
	for n.blocks > 0 {
		s.end()
	}
	if n.kind == api.Program {
		hard(s)
	}
	s.nodes = s.nodes[:len(s.nodes)-1]
}

// leaf lays a token, and all that waits ahead of it.
func (s *Styler) leaf(t api.Tok) []api.Doc {
	// Which row it is, is asked for first: what stands ahead of a token may end the block that says so.
	r := rowOf(*s.inner(), t)
	r.ahead(s)
	s.putEmpty(t.Feeds)
	s.endLine()
	if s.parting && !s.anyWaits(isGap) {
		blank(s)
	}
	laid := append(s.waits, textOf(t))
	s.waits, s.marked, s.mark, s.ending, s.parting = nil, false, 0, false, false
	s.written = true
	r.behind(s)
	return laid
}

// putEmpty puts an empty line where the mark is, if the source has one ahead of the token.
func (s *Styler) putEmpty(feeds int) {
	if !s.marked || feeds < 2 || !s.written || slices.ContainsFunc(s.waits[:s.mark], isBegin) {
		return
	}
	s.waits = slices.Insert(s.waits, s.mark, api.Doc{Kind: api.Empty})
}

// endLine ends the line, if it is to end, and nothing that waits does so.
func (s *Styler) endLine() {
	if s.ending && !s.anyWaits(isHard) {
		s.waits = slices.Insert(s.waits, 0, api.Doc{Kind: api.Hard})
	}
}

// note lays a comment. Blocks that are to begin next do so ahead of it, so that it stands where their lines do.
func (s *Styler) note(t api.Tok) []api.Doc {
	laid := s.takeBegins()
	begun := len(laid) > 0
	s.marked, s.mark = false, 0
	if t.Feeds == 0 && s.written {
		s.ending = s.ending || t.Kind == api.TokLine
		s.parting = s.parting || t.Kind == api.TokBlock
		return append(laid, api.Doc{Kind: api.Blank}, textOf(t))
	}
	laid = append(laid, api.Doc{Kind: api.Hard})
	if t.Feeds >= 2 && s.written && !begun {
		laid = append(laid, api.Doc{Kind: api.Empty})
	}
	s.written, s.ending = true, true
	return append(laid, textOf(t))
}

// takeBegins takes the Begins away that wait ahead of all else.
func (s *Styler) takeBegins() []api.Doc {
	n := 0
	for n < len(s.waits) && isBegin(s.waits[n]) {
		n++
	}
	begins := slices.Clone(s.waits[:n])
	s.waits = slices.Delete(s.waits, 0, n)
	return begins
}

func textOf(t api.Tok) api.Doc { return api.Doc{Kind: api.Text, Text: t.Text} }
