package sink_test

import (
	"fmt"
	"strconv"
	"strings"
	"testing"

	"colophon/api"
	"colophon/sink"
	"colophon/width"
)

// writer is what a sink does; a page does the same.
type writer interface {
	Text(t string) api.Errno
	Blanks(n int) api.Errno
	Feed(column int) api.Errno
	Empty() api.Errno
	Column() int
	Fresh() bool
	Take() string
}

// page is a sink told the plain way: all that was ever written, and the line's pieces one by one.
type page struct {
	all    string
	taken  int
	stale  bool
	indent int
	line   []string // what was written since the last line feed
	wait   string
}

func (p *page) put(t string) {
	p.all += t
	lines := strings.Split(t, "\n")
	if len(lines) > 1 {
		p.line = nil
	}
	p.line = append(p.line, lines[len(lines)-1])
}

func (p *page) Text(t string) api.Errno {
	if t == "" {
		return api.OK
	}
	if !p.stale {
		p.put(strings.Repeat(" ", p.indent))
	}
	p.put(p.wait)
	p.put(t)
	p.stale, p.wait = true, ""
	return api.OK
}

func (p *page) Blanks(n int) api.Errno {
	if n < 0 || n > 1048576 {
		return api.ErrArg
	}
	p.wait += strings.Repeat(" ", n)
	return api.OK
}

func (p *page) Feed(column int) api.Errno {
	if column < 0 || column > 1048576 {
		return api.ErrArg
	}
	p.put("\n")
	p.stale, p.wait, p.indent = false, "", column
	return api.OK
}

func (p *page) Empty() api.Errno {
	if p.stale {
		return api.OK
	}
	return p.Feed(p.indent)
}

func (p *page) Column() int {
	n := len(p.wait)
	if !p.stale {
		return n + p.indent
	}
	for _, t := range p.line {
		n += width.Text(t)
	}
	return n
}

func (p *page) Fresh() bool { return !p.stale }

func (p *page) Take() string {
	t := p.all[p.taken:]
	p.taken = len(p.all)
	return t
}

// told is what a call answered.
type told struct {
	e api.Errno
	t string
}

// step is a call in a script.
type step struct {
	name string
	do   func(w writer) told
}

func text(t string) step {
	return step{"Text(" + strconv.Quote(t) + ")", func(w writer) told { return told{e: w.Text(t)} }}
}

func blanks(n int) step {
	return step{"Blanks(" + strconv.Itoa(n) + ")", func(w writer) told { return told{e: w.Blanks(n)} }}
}

func feed(column int) step {
	return step{"Feed(" + strconv.Itoa(column) + ")", func(w writer) told { return told{e: w.Feed(column)} }}
}

func empty() step { return step{"Empty()", func(w writer) told { return told{e: w.Empty()} }} }

func take() step { return step{"Take()", func(w writer) told { return told{t: w.Take()} }} }

// parts are letters for steps, the first one A: what scripts are made of.
func parts(steps []step) []string {
	var l []string
	for i := range steps {
		l = append(l, string(rune('A'+i)))
	}
	return l
}

// read is the steps that a script's letters stand for.
func read(steps []step, script string) []step {
	var l []step
	for _, r := range script {
		l = append(l, steps[r-'A'])
	}
	return l
}

// names are the steps' names, to be told when a script fails.
func names(script []step) string {
	var l []string
	for _, s := range script {
		l = append(l, s.name)
	}
	return strings.Join(l, ", ")
}

// short is a text's beginning and end, if there is too much between them to be told.
func short(t string) string {
	if len(t) <= 200 {
		return strconv.Quote(t)
	}
	return fmt.Sprintf("%q .. %q (%d bytes)", t[:100], t[len(t)-100:], len(t))
}

// differ says in what two that were written into alike are not the same; empty: in nothing that a call tells. It takes
// what they have.
func differ(w, want writer) string {
	if w.Column() != want.Column() || w.Fresh() != want.Fresh() {
		return fmt.Sprintf("Column() = %d, Fresh() = %t, not %d, %t", w.Column(), w.Fresh(), want.Column(), want.Fresh())
	}
	if t, u := w.Take(), want.Take(); t != u {
		return fmt.Sprintf("Take() = %s, not %s", short(t), short(u))
	}
	return ""
}

// pair is a sink and the page that it must be.
type pair struct{ sink, page writer }

func newPair(t *testing.T) pair {
	t.Helper()
	return pair{made(t), &page{}}
}

// made is a new sink.
func made(t *testing.T) *sink.Sink {
	t.Helper()
	s := sink.New()
	if s == nil {
		t.Fatal("New() = nil")
	}
	return s
}

// do does steps on both, and says in what they differ in answering them, or in the column.
func (p pair) do(script ...step) string {
	for i, s := range script {
		if got, want := s.do(p.sink), s.do(p.page); got != want {
			return fmt.Sprintf("step %d, %s: %d, %s, not %d, %s", i, s.name, got.e, short(got.t), want.e, short(want.t))
		}
		if p.sink.Column() != p.page.Column() || p.sink.Fresh() != p.page.Fresh() {
			return fmt.Sprintf("behind step %d, %s: Column() = %d, Fresh() = %t, not %d, %t", i, s.name, p.sink.Column(), p.sink.Fresh(), p.page.Column(), p.page.Fresh())
		}
	}
	return ""
}

// testScript holds a new sink against a page.
func testScript(t *testing.T, script ...step) {
	t.Helper()
	p := newPair(t)
	if s := p.do(script...); s != "" {
		t.Fatalf("%s: %s", names(script), s)
	}
	if s := differ(p.sink, p.page); s != "" {
		t.Fatalf("%s: %s", names(script), s)
	}
}
