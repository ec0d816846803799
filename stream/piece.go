package stream

import (
	"strings"

	"colophon/api"
	"colophon/width"
)

// tooWide stands for all widths that no room has.
const tooWide = api.MaxWidth + 1

// piece is one that was put. A Begin looks for room for its block, a Break for what hangs on it; it is settled, when the
// piece that ends that has been put.
type piece struct {
	doc     api.Doc
	ahead   int // how wide all pieces are that were put ahead of it
	settled bool
	need    int // how wide that is for which it looks for room, if it is settled
}

// waits tells whether it looks for room, and for how much hangs on what is put next.
func (x *piece) waits() bool { return looks(x.doc.Kind) && !x.settled }

// looks tells whether pieces of a kind look for room.
func looks(kind api.DocKind) bool { return kind == api.Begin || kind == api.Break }

// need is for how many columns a piece looks for room. Of what waits all that was put behind it is a part.
func (p *Printer) need(x *piece) int {
	if x.waits() {
		return p.total - x.ahead
	}
	return x.need
}

// take takes a piece that may stand here.
func (p *Printer) take(d api.Doc) {
	switch d.Kind {
	case api.Begin:
		p.open++
	case api.End:
		p.open--
	}
	p.settle(d.Kind)
	x := &piece{doc: d, ahead: p.total}
	p.total += columns(d)
	p.held.push(x)
	if looks(d.Kind) {
		p.waiting.push(x)
	}
}

// settle settles what a piece of a kind ends: what hangs on a Break of the innermost block, and, of an End, the block. As
// all blocks within it have ended, the last ones that wait are its Begin, and behind that its Break, if it has one.
func (p *Printer) settle(ender api.DocKind) {
	switch ender {
	case api.Text, api.Blank, api.Begin:
		return
	}
search:
	for last, some := p.waiting.last(); some; last, some = p.waiting.last() {
		switch last.doc.Kind {
		case api.Break:
			p.settleLast(last)
		case api.Begin:
			if ender == api.End {
				p.settleLast(last)
			}
			break search
		}
	}
}

// settleLast settles the last piece that waits.
func (p *Printer) settleLast(last *piece) {
	last.need = p.need(last)
	last.settled = true
	p.waiting.popBack()
}

// columns is how wide a piece is.
func columns(d api.Doc) int {
	switch d.Kind {
	case api.Text:
		if strings.Contains(d.Text, "\n") {
			return tooWide
		}
		return width.Text(d.Text)
	case api.Blank:
		return 1
	case api.Break:
		return d.Blanks
	case api.Hard, api.Empty:
		return tooWide
	}
	return 0
}
