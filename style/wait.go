package style

import (
	"slices"

	"colophon/api"
)

// wait lets a piece come to wait.
func (s *Styler) wait(d api.Doc) { s.waits = append(s.waits, d) }

// begin lets a Begin come to wait: a block of the innermost node.
func (s *Styler) begin(indent int, even bool) {
	s.wait(api.Doc{Kind: api.Begin, Indent: indent, Even: even})
	s.inner().blocks++
}

// end ends a block of the innermost node, if it has one.
func (s *Styler) end() {
	if n := s.inner(); n.blocks > 0 {
		s.wait(api.Doc{Kind: api.End})
		n.blocks--
	}
}

// anyWaits tells whether a piece waits that is such.
func (s *Styler) anyWaits(is func(api.Doc) bool) bool { return slices.ContainsFunc(s.waits, is) }

func isBegin(d api.Doc) bool { return d.Kind == api.Begin }

func isHard(d api.Doc) bool { return d.Kind == api.Hard }

// isGap: is it one that parts the texts around it?
func isGap(d api.Doc) bool {
	return d.Kind == api.Blank || d.Kind == api.Hard || d == api.Doc{Kind: api.Break, Blanks: 1}
}

// What a row of the table lets come to wait, each called by its pieces.

func nothing(*Styler) {}

func blank(s *Styler) { s.wait(api.Doc{Kind: api.Blank}) }

func break1(s *Styler) { s.wait(api.Doc{Kind: api.Break, Blanks: 1}) }

func hard(s *Styler) { s.wait(api.Doc{Kind: api.Hard}) }

func end(s *Styler) { s.end() }

func endBlank(s *Styler) {
	s.end()
	blank(s)
}

func endHard(s *Styler) {
	s.end()
	hard(s)
}

func in1(s *Styler) { s.begin(1, false) }

func in2(s *Styler) { s.begin(2, false) }

func in2Break0(s *Styler) {
	in2(s)
	s.wait(api.Doc{Kind: api.Break})
}

func in2Break1(s *Styler) {
	in2(s)
	break1(s)
}

func even2Hard(s *Styler) {
	s.begin(2, true)
	hard(s)
}

func blankIn3(s *Styler) {
	blank(s)
	s.begin(3, false)
}

func blankIn4(s *Styler) {
	blank(s)
	s.begin(4, false)
}
