package style_test

import (
	"slices"
	"strings"
	"testing"

	"colophon/api"
	"colophon/doc"
	"colophon/samples"
	"colophon/style"
)

// around is the document's table of what stands around tokens, row by row: the nodes, the tokens, ahead, behind.
const around = `
Program | program | | S
Program, Body, Record | ; | | H
Block, Compound | begin | | [e2 H
Block, Compound, Record, If, While, For | end | ] H |
Var | var | | S [4
Var, Param, Member, Index, Args | , | | B1
Var, Param, Member | : | ] | S
Var | ; | | H
Const | const | | S
Proc | proc | | S
Const | = | S | [2 B1
Const | ; | ] | H
Proc | : | | S
Proc, none of whose blocks is there | ; | | [e2 H
Proc, else | ; | ] | H
Params | ( | | [2 B0
Params | ; | | B1
Params, Group, Args | ) | ] |
Array | array | | S
Array | of | S | S
Record | record | | [e2 H
Act | := | S | B1
If | if | | S [3
If | elif | ] H | S [3
While | while | | S [3
If | then | ] S | [e2 H
If | else | ] H | [e2 H
While | do | ] S | [e2 H
For | for | | S
For | :=, to | S | S
For | do | S | [e2 H
Repeat | repeat | | [e2 H
Repeat | until | ] H | S [3
Expr, Rel, Sum, Term | any | S | B1
Not | not | | S
Group | ( | | [1
Index | [ | | [1
Index | ] | ] |
Args | ( | | [2
`

// plainRow is a row of the table.
type plainRow struct {
	nodes         []api.NodeKind
	bare, full    bool // of a Proc: is it the row for one without blocks, or the one for any other?
	tokens        []string
	ahead, behind string
}

// plainTable reads the table.
func plainTable() []plainRow {
	var rows []plainRow
	for line := range strings.Lines(around) {
		part := strings.Split(line, "|")
		if len(part) != 4 {
			continue
		}
		r := plainRow{tokens: strings.Split(strings.TrimSpace(part[1]), ", "), ahead: part[2], behind: part[3]}
		for _, word := range strings.Split(strings.TrimSpace(part[0]), ", ") {
			switch word {
			case "none of whose blocks is there":
				r.bare = true
			case "else":
				r.full = true
			default:
				r.nodes = append(r.nodes, samples.NodeOf(word))
			}
		}
		rows = append(rows, r)
	}
	return rows
}

func (r plainRow) fits(n plainNode, t api.Tok) bool {
	return slices.Contains(r.nodes, n.kind) && (r.tokens[0] == "any" || slices.Contains(r.tokens, t.Text)) &&
		!(r.bare && n.blocks > 0) && !(r.full && n.blocks == 0)
}

// plainNode is a node that is open.
type plainNode struct {
	kind   api.NodeKind
	blocks int
	exprs  int // that were opened in it
}

// plainStyler is a plain second way: it goes by the promises as they stand, and has what waits as words, the mark among
// them.
type plainStyler struct {
	rows   []plainRow
	nodes  []plainNode
	waits  []string
	texts  int // that were laid
	toEnd  bool
	wanted bool
	done   bool
}

// table is read once, as many are made.
var table = plainTable()

func newPlain() *plainStyler { return &plainStyler{rows: table} }

// copied is one that goes on by itself.
func (p *plainStyler) copied() *plainStyler {
	c := *p
	c.nodes, c.waits = slices.Clone(p.nodes), slices.Clone(p.waits)
	return &c
}

func (p *plainStyler) put(e api.Event) answer {
	switch {
	case p.done:
		return answer{code: api.ErrDone}
	case p.refuses(e):
		return answer{code: api.ErrTreeForm}
	}
	var laid []api.Doc
	switch e.Kind {
	case api.Open:
		p.open(e.Node)
	case api.Close:
		p.come(strings.Repeat("] ", p.inner().blocks))
		if e.Node == api.Program {
			p.come("H")
		}
		p.nodes = p.nodes[:len(p.nodes)-1]
	case api.Leaf:
		laid = p.leaf(e.Tok)
	case api.Note:
		laid = p.note(e.Tok)
	}
	return answer{laid: laid}
}

func (p *plainStyler) close() answer {
	switch {
	case p.done:
		return answer{code: api.ErrDone}
	case len(p.nodes) > 0:
		return answer{code: api.ErrTreeForm}
	}
	p.done = true
	var laid []api.Doc
	if p.toEnd && !p.waiting("H") {
		laid = append(laid, samples.Piece("H"))
	}
	return answer{laid: append(laid, p.layAll()...)}
}

func (p *plainStyler) refuses(e api.Event) bool {
	if e.Kind == api.Open {
		return e.Node == 0 || e.Node > api.Value
	}
	if e.Kind == 0 || e.Kind > api.Note || len(p.nodes) == 0 {
		return true
	}
	if e.Kind == api.Close {
		return p.inner().kind != e.Node
	}
	code, _ := doc.Check([]api.Doc{{Kind: api.Text, Text: e.Tok.Text}})
	return code != api.OK || e.Kind == api.Note && e.Tok.Kind != api.TokLine && e.Tok.Kind != api.TokBlock
}

func (p *plainStyler) inner() *plainNode { return &p.nodes[len(p.nodes)-1] }

// come lets pieces come to wait.
func (p *plainStyler) come(words string) {
	for word := range strings.FieldsSeq(words) {
		if word == "]" {
			if p.inner().blocks == 0 {
				continue
			}
			p.inner().blocks--
		}
		if word[0] == '[' {
			p.inner().blocks++
		}
		p.waits = append(p.waits, word)
	}
}

// waiting tells whether one of some pieces waits.
func (p *plainStyler) waiting(words ...string) bool {
	return slices.ContainsFunc(p.waits, func(w string) bool { return slices.Contains(words, w) })
}

// layAll lays all that waits.
func (p *plainStyler) layAll() []api.Doc {
	p.dropMark()
	l := samples.Layout(strings.Join(p.waits, " "))
	p.waits = nil
	return l
}

func (p *plainStyler) dropMark() {
	p.waits = slices.DeleteFunc(p.waits, func(w string) bool { return w == "mark" })
}

func (p *plainStyler) open(kind api.NodeKind) {
	if len(p.nodes) > 0 && kind == api.Expr {
		if p.inner().kind == api.Return {
			p.come("S [3")
		}
		if p.inner().kind == api.Args && p.inner().exprs == 0 {
			p.come("B0")
		}
		p.inner().exprs++
	}
	const marking = " Var Const Proc Member Skip Act If While For Repeat Return Compound "
	if strings.Contains(marking, " "+samples.NodeWord(kind)+" ") && !p.waiting("mark") {
		p.waits = append(p.waits, "mark")
	}
	p.nodes = append(p.nodes, plainNode{kind: kind})
	switch samples.NodeWord(kind) {
	case "Expr", "Rel", "Sum", "Term":
		p.come("[0")
	case "Act", "Param", "Member":
		p.come("[2")
	}
}

func (p *plainStyler) leaf(t api.Tok) []api.Doc {
	r := plainRow{}
	for _, other := range p.rows {
		if (t.Kind == api.TokKey || t.Kind == api.TokSign) && other.fits(*p.inner(), t) {
			r = other
		}
	}
	p.come(r.ahead)
	if at := slices.Index(p.waits, "mark"); at >= 0 && t.Feeds >= 2 && p.texts > 0 && !strings.Contains(strings.Join(p.waits[:at], " "), "[") {
		p.waits[at] = "E"
	}
	if p.toEnd && !p.waiting("H") {
		p.waits = append([]string{"H"}, p.waits...)
	} else if p.wanted && !p.waiting("S", "H", "B1") {
		p.come("S")
	}
	laid := append(p.layAll(), api.Doc{Kind: api.Text, Text: t.Text})
	p.texts++
	p.toEnd, p.wanted = false, false
	p.come(r.behind)
	return laid
}

func (p *plainStyler) note(t api.Tok) []api.Doc {
	p.dropMark()
	var laid []api.Doc
	for len(p.waits) > 0 && p.waits[0][0] == '[' {
		laid = append(laid, samples.Piece(p.waits[0]))
		p.waits = p.waits[1:]
	}
	begun := len(laid) > 0
	text := api.Doc{Kind: api.Text, Text: t.Text}
	ahead := p.texts
	p.texts++
	if t.Feeds == 0 && ahead > 0 {
		if t.Kind == api.TokLine {
			p.toEnd = true
		} else {
			p.wanted = true
		}
		return append(laid, samples.Piece("S"), text)
	}
	p.toEnd = true
	laid = append(laid, samples.Piece("H"))
	if t.Feeds >= 2 && ahead > 0 && !begun {
		laid = append(laid, samples.Piece("E"))
	}
	return append(laid, text)
}

// follows holds each call against the plain way, at events of any kind, and at Close.
func follows(t *testing.T, l []api.Event) {
	t.Helper()
	p, s := newPlain(), style.New()
	for i, e := range l {
		if got, want := put(s, e), p.put(e); !got.same(want) {
			t.Fatalf("%s\n at %d: %s\n    not %s", samples.EventsWord(l, api.OK), i, got, want)
		}
	}
	for range 2 {
		if got, want := closed(s), p.close(); !got.same(want) {
			t.Fatalf("%s\n at Close: %s\n      not %s", samples.EventsWord(l, api.OK), got, want)
		}
	}
}

// The plain way has all rows of the table, and says what the chapter's examples do.
func TestPlain(t *testing.T) {
	if n := len(plainTable()); n != 39 {
		t.Errorf("%d rows", n)
	}
	for _, r := range plainTable() {
		if len(r.nodes) == 0 || slices.Contains(r.nodes, 0) {
			t.Errorf("%+v", r)
		}
	}
	for _, x := range samples.Examples() {
		p := newPlain()
		var all []api.Doc
		for _, e := range eventsOf(tokens(x.Source)) {
			all = append(all, p.put(e).laid...)
		}
		if got := printed(t, x.Width, append(all, p.close().laid...)); got != x.Want {
			t.Errorf("%q: %s", x.Source, got)
		}
	}
}
