// Package plain prints a layout as chapter 8 says it, the plain way: each width is looked for anew, forward, whenever it is
// asked for. The tests hold the layers that print against it; no layer calls it.
package plain

import (
	"strings"

	"colophon/api"
	"colophon/width"
)

// endless is wider than any room.
const endless = 1 << 30

// Wide is how wide a piece is.
func Wide(d api.Doc) int {
	switch {
	case d.Kind == api.Hard || d.Kind == api.Empty || strings.Contains(d.Text, "\n"):
		return endless
	case d.Kind == api.Text:
		return width.Text(d.Text)
	case d.Kind == api.Blank:
		return 1
	case d.Kind == api.Break:
		return d.Blanks
	}
	return 0
}

// Reach is how wide pieces are, and whether they have come to an end: that of the block in which the first one stands, or,
// if hang is so, that of what hangs on a Break ahead of the first one.
func Reach(l []api.Doc, hang bool) (wide int, ended bool) {
	open := 0
	for _, d := range l {
		ender := d.Kind == api.Break || d.Kind == api.Hard || d.Kind == api.Empty
		if open == 0 && (d.Kind == api.End || hang && ender) {
			return wide, true
		}
		switch d.Kind {
		case api.Begin:
			open++
		case api.End:
			open--
		}
		wide = min(wide+Wide(d), endless)
	}
	return wide, false
}

// Block is the index of the Begin of a piece's own block; -1: it is the whole's.
func Block(l []api.Doc, i int) int {
	open := 0
	for k := i - 1; k >= 0; k-- {
		switch {
		case l[k].Kind == api.Begin && open == 0:
			return k
		case l[k].Kind == api.Begin:
			open--
		case l[k].Kind == api.End:
			open++
		}
	}
	return -1
}

// Indent is the indent of the block that begins there.
func Indent(l []api.Doc, begin int) int {
	if begin < 0 {
		return 0
	}
	return min(api.MaxIn, Indent(l, Block(l, begin))+l[begin].Indent)
}

// Page is what is printed of pieces that are known, and which of their blocks fit.
type Page struct {
	Text   string // without the blanks that are held back
	Column int
	Begins bool // does a line begin?

	held string
	last api.DocKind // of the piece that did something
	fits []bool      // by where blocks begin
}

// New is a page on which nothing was printed.
func New() *Page { return &Page{Begins: true} }

// Fits tells whether the block that begins there did fit. The whole never does.
func (p *Page) Fits(begin int) bool { return begin >= 0 && p.fits[begin] }

// Put prints the piece behind those that were printed, the i-th one of pieces that are known.
func (p *Page) Put(columns int, l []api.Doc, i int) {
	d, block, room := l[i], Block(l, i), columns-p.Column
	fits := false
	switch d.Kind {
	case api.Text:
		p.putText(d.Text)
	case api.Blank:
		p.putBlanks(1, api.Blank)
	case api.Hard:
		p.endLine(Indent(l, block), api.Hard)
	case api.Empty:
		p.putEmpty()
	case api.Begin:
		wide, _ := Reach(l[i+1:], false)
		fits = wide <= room
	case api.Break:
		wide, _ := Reach(l[i+1:], true)
		ends := d.Blanks+wide > room
		if block >= 0 && l[block].Even {
			ends = !p.Fits(block)
		}
		if ends {
			p.endLine(Indent(l, block), api.Break)
		} else {
			p.putBlanks(d.Blanks, api.Break)
		}
	}
	p.fits = append(p.fits, fits)
}

func (p *Page) putText(t string) {
	p.Text += p.held + t
	p.held, p.Begins, p.last = "", false, api.Text
	p.Column += width.Text(t)
	if i := strings.LastIndex(t, "\n"); i >= 0 {
		p.Column = width.Text(t[i+1:])
	}
}

func (p *Page) putBlanks(n int, kind api.DocKind) {
	if !p.Begins {
		p.held += strings.Repeat(" ", n)
		p.Column += n
		p.last = kind
	}
}

func (p *Page) endLine(indent int, kind api.DocKind) {
	if !p.Begins {
		p.Text += "\n"
		p.held, p.Column, p.Begins, p.last = strings.Repeat(" ", indent), indent, true, kind
	}
}

func (p *Page) putEmpty() {
	if p.Begins && p.Text != "" && p.last != api.Empty {
		p.Text += "\n"
		p.last = api.Empty
	}
}

// Print is what is printed of a layout that may be.
func Print(columns int, l []api.Doc) string {
	p := New()
	for i := range l {
		p.Put(columns, l, i)
	}
	return p.Text
}
