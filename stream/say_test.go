package stream_test

import (
	"strconv"
	"strings"
	"testing"

	"colophon/api"
	"colophon/plain"
	"colophon/samples"
	"colophon/stream"
	"colophon/whole"
)

// of is the layout that words stand for.
func of(words string) []api.Doc { return samples.Layout(words) }

// made is a new printer.
func made(t *testing.T, columns int) *stream.Printer {
	t.Helper()
	p, e := stream.New(columns)
	if p == nil || e != api.OK {
		t.Fatalf("New(%d) = %v, %d", columns, p, e)
	}
	return p
}

// says goes through a script with a new printer.
func says(t *testing.T, columns int, script string) *stream.Printer {
	t.Helper()
	p := made(t, columns)
	goesOn(t, p, script)
	return p
}

// goesOn goes through a script: words of three parts, a piece's word (of Close a point), what is told (| is a line's end
// and _ a blank; ! ahead of an error's number), and Held then.
func goesOn(t *testing.T, p *stream.Printer, script string) {
	t.Helper()
	for i, step := range strings.Fields(script) {
		part := strings.Split(step, ":")
		var s string
		var e api.Errno
		if part[0] == "." {
			s, e = p.Close()
		} else {
			s, e = p.Put(samples.Piece(part[0]))
		}
		want, number := samples.Text(part[1]), 0
		if n, failed := strings.CutPrefix(part[1], "!"); failed {
			want, number = "", atoi(t, n)
		}
		if held := p.Held(); s != want || e != api.Errno(number) || held != atoi(t, part[2]) {
			t.Fatalf("%s\nstep %d, %s: %q, %d, Held() = %d", script, i, step, s, e, held)
		}
	}
}

func atoi(t *testing.T, s string) int {
	t.Helper()
	n, err := strconv.Atoi(s)
	if err != nil {
		t.Fatal(err)
	}
	return n
}

// put puts a piece that may stand there.
func put(t *testing.T, p *stream.Printer, d api.Doc) string {
	t.Helper()
	s, e := p.Put(d)
	if e != api.OK {
		t.Fatalf("Put(%s): %d", samples.Words([]api.Doc{d}), e)
	}
	return s
}

// putAll puts pieces that may stand there; all that is told of them.
func putAll(t *testing.T, p *stream.Printer, l []api.Doc) string {
	t.Helper()
	var all strings.Builder
	for _, d := range l {
		all.WriteString(put(t, p, d))
	}
	return all.String()
}

// closed is what Close tells.
func closed(t *testing.T, p *stream.Printer) string {
	t.Helper()
	s, e := p.Close()
	if e != api.OK || p.Held() != 0 {
		t.Fatalf("Close: %d, Held() = %d", e, p.Held())
	}
	return s
}

// printed is whole.Print of a layout that may be.
func printed(t *testing.T, columns int, l []api.Doc) string {
	t.Helper()
	s, e := whole.Print(columns, l)
	if e != api.OK {
		t.Fatalf("whole.Print(%d, %s): %d", columns, samples.Words(l), e)
	}
	return s
}

// plainPrinter says the plain way which pieces are sure: each is looked at anew, forward, behind each one that is put.
type plainPrinter struct {
	columns int
	pieces  []api.Doc
	printed int // pieces
	told    int // bytes
	page    *plain.Page
}

func newPlain(columns int) *plainPrinter { return &plainPrinter{columns: columns, page: plain.New()} }

func (p *plainPrinter) put(d api.Doc) string {
	p.pieces = append(p.pieces, d)
	return p.print(p.sure)
}

func (p *plainPrinter) close() string { return p.print(func(int) bool { return true }) }

func (p *plainPrinter) held() int { return len(p.pieces) - p.printed }

func (p *plainPrinter) print(sure func(i int) bool) string {
	for p.printed < len(p.pieces) && sure(p.printed) {
		p.page.Put(p.columns, p.pieces, p.printed)
		p.printed++
	}
	s := p.page.Text[p.told:]
	p.told += len(s)
	return s
}

func (p *plainPrinter) sure(i int) bool {
	d, behind, room := p.pieces[i], p.pieces[i+1:], p.columns-p.page.Column
	switch d.Kind {
	case api.Begin:
		wide, ended := plain.Reach(behind, false)
		return ended || wide > room
	case api.Break:
		block := plain.Block(p.pieces, i)
		wide, ended := plain.Reach(behind, true)
		even := block >= 0 && p.pieces[block].Even
		return p.page.Begins || even || p.page.Fits(block) || ended || d.Blanks+wide > room
	}
	return true
}

// follows holds a printer against the plain way behind each piece of a layout that may be, and against what whole tells
// of it. It fails the test at once, as what comes next would fail too.
func follows(t *testing.T, columns int, l []api.Doc) {
	t.Helper()
	p, plainly, all, told := made(t, columns), newPlain(columns), printed(t, columns, l), 0
	for i, d := range l {
		s, held := put(t, p, d), p.Held()
		if want := plainly.put(d); s != want || held != plainly.held() {
			t.Fatalf("width %d, %s, piece %d: %q, Held() = %d, not %q, %d", columns, samples.Words(l), i, s, held, want, plainly.held())
		}
		if told += len(s); !strings.HasPrefix(all[told-len(s):], s) {
			t.Fatalf("width %d, %s, piece %d: %q is no part of %q", columns, samples.Words(l), i, s, all)
		}
	}
	if s, want := closed(t, p), plainly.close(); s != want || s != all[told:] {
		t.Fatalf("width %d, %s: Close: %q, not %q; %d bytes of %q were told ahead", columns, samples.Words(l), s, want, told, all)
	}
}

// tells holds what is told of a layout, all together, where it is too long for the plain way.
func tells(t *testing.T, columns int, l []api.Doc, want string) {
	t.Helper()
	p := made(t, columns)
	if s := putAll(t, p, l) + closed(t, p); s != want {
		t.Errorf("width %d, %s: %s, not %s", columns, samples.Words(l), samples.Short(s), samples.Short(want))
	}
}
