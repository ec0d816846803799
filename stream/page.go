package stream

import (
	"colophon/api"
	"colophon/sink"
)

// page is what was printed, and what must be known of it to print more.
type page struct {
	width  int
	out    *sink.Sink
	block  block   // the innermost one
	around []block // those around it, the whole first
	ended  bool    // the piece ahead that did something ended a line: an empty one may stand here
}

// block is what must be known of one to print its pieces. The zero value is the whole.
type block struct {
	indent     int
	even, fits bool
}

func newPage(width int) page { return page{width: width, out: sink.New()} }

// told is what was printed since it was told last.
func (g *page) told() string { return g.out.Take() }

// begins tells whether a line begins.
func (g *page) begins() bool { return g.out.Fresh() }

// fits tells whether there is room for so many columns. The room may be below 0: then there is none for no column either.
func (g *page) fits(need int) bool { return need <= g.width-g.out.Column() }

// put prints a piece, which looks for room for so many columns.
func (g *page) put(d api.Doc, need int) {
	switch d.Kind {
	case api.Text:
		g.out.Text(d.Text)
		g.ended = false
	case api.Blank:
		g.hold(1)
	case api.Break:
		g.putBreak(d.Blanks, need)
	case api.Hard:
		g.endLine()
	case api.Empty:
		g.putEmpty()
	case api.Begin:
		g.around = append(g.around, g.block)
		g.block = block{min(g.block.indent+d.Indent, api.MaxIn), d.Even, g.fits(need)}
	case api.End:
		last := len(g.around) - 1
		g.block, g.around = g.around[last], g.around[:last]
	}
}

func (g *page) putBreak(blanks, need int) {
	inLine := g.fits(need)
	if g.block.even {
		inLine = g.block.fits
	}
	if inLine {
		g.hold(blanks)
	} else {
		g.endLine()
	}
}

// hold holds blanks back, but where a line begins.
func (g *page) hold(blanks int) {
	if !g.begins() {
		g.out.Blanks(blanks)
	}
}

// endLine ends the line, but where one begins.
func (g *page) endLine() {
	if !g.begins() {
		g.out.Feed(g.block.indent)
		g.ended = true
	}
}

// putEmpty leaves a line empty. None stands where nothing was printed, or behind another one.
func (g *page) putEmpty() {
	if g.ended {
		g.out.Empty()
		g.ended = false
	}
}
