package driver

import (
	"colophon/api"
	"colophon/stream"
)

// printer is a driver's printer. That of stream stands in a field with a name: what has capitals in it would be a call of
// every driver else, and print on where the driver is broken.
type printer struct {
	pages *stream.Printer
	tell  func(string) // what is done with what is printed
}

// print prints the pieces that a styler lays.
func (p *printer) print(l []api.Doc, code api.Errno) api.Errno {
	for _, piece := range l {
		if no := p.pass(p.pages.Put(piece)); no != api.OK {
			return no
		}
	}
	return code
}

// printRest prints what is held.
func (p *printer) printRest() api.Errno { return p.pass(p.pages.Close()) }

// pass hands on what is printed.
func (p *printer) pass(s string, code api.Errno) api.Errno {
	if code == api.OK {
		p.tell(s)
	}
	return code
}
