package style

import (
	"slices"

	"colophon/api"
)

// row says what stands around a token in some nodes.
type row struct {
	nodes  kinds
	text   string // of the token; anyText: whatever it is
	ahead  func(*Styler)
	behind func(*Styler)
}

// kinds are those of a row; where it has fewer, the rest is 0, which no node is.
type kinds [6]api.NodeKind

// anyText is no token's.
const anyText = ""

// bareProc is a Proc none of whose blocks is there; its row stands ahead of that of any Proc.
const bareProc = api.Value + 1

// table is the document's, row by row.
func table() [40]row {
	return [40]row{
		{kinds{api.Program}, "program", nothing, blank},
		{kinds{api.Program, api.Body, api.Record}, ";", nothing, hard},
		{kinds{api.Block, api.Compound}, "begin", nothing, even2Hard},
		{kinds{api.Block, api.Compound, api.Record, api.If, api.While, api.For}, "end", endHard, nothing},
		{kinds{api.Var}, "var", nothing, blankIn4},
		{kinds{api.Var, api.Param, api.Member, api.Index, api.Args}, ",", nothing, break1},
		{kinds{api.Var, api.Param, api.Member}, ":", end, blank},
		{kinds{api.Var}, ";", nothing, hard},
		{kinds{api.Const}, "const", nothing, blank},
		{kinds{api.Proc}, "proc", nothing, blank},
		{kinds{api.Const}, "=", blank, in2Break1},
		{kinds{api.Const}, ";", end, hard},
		{kinds{api.Proc}, ":", nothing, blank},
		{kinds{bareProc}, ";", nothing, even2Hard},
		{kinds{api.Proc}, ";", end, hard},
		{kinds{api.Params}, "(", nothing, in2Break0},
		{kinds{api.Params}, ";", nothing, break1},
		{kinds{api.Params, api.Group, api.Args}, ")", end, nothing},
		{kinds{api.Array}, "array", nothing, blank},
		{kinds{api.Array}, "of", blank, blank},
		{kinds{api.Record}, "record", nothing, even2Hard},
		{kinds{api.Act}, ":=", blank, break1},
		{kinds{api.If}, "if", nothing, blankIn3},
		{kinds{api.If}, "elif", endHard, blankIn3},
		{kinds{api.While}, "while", nothing, blankIn3},
		{kinds{api.If}, "then", endBlank, even2Hard},
		{kinds{api.If}, "else", endHard, even2Hard},
		{kinds{api.While}, "do", endBlank, even2Hard},
		{kinds{api.For}, "for", nothing, blank},
		{kinds{api.For}, ":=", blank, blank},
		{kinds{api.For}, "to", blank, blank},
		{kinds{api.For}, "do", blank, even2Hard},
		{kinds{api.Repeat}, "repeat", nothing, even2Hard},
		{kinds{api.Repeat}, "until", endHard, blankIn3},
		{kinds{api.Expr, api.Rel, api.Sum, api.Term}, anyText, blank, break1},
		{kinds{api.Not}, "not", nothing, blank},
		{kinds{api.Group}, "(", nothing, in1},
		{kinds{api.Index}, "[", nothing, in1},
		{kinds{api.Index}, "]", end, nothing},
		{kinds{api.Args}, "(", nothing, in2},
	}
}

// rowOf is the row of a token in a node; where there is none, one that has nothing.
func rowOf(n node, t api.Tok) row {
	if t.Kind == api.TokKey || t.Kind == api.TokSign {
		for _, r := range table() {
			if r.fits(n, t.Text) {
				return r
			}
		}
	}
	return row{ahead: nothing, behind: nothing}
}

func (r row) fits(n node, text string) bool {
	return (r.text == anyText || r.text == text) && slices.ContainsFunc(r.nodes[:], n.is)
}

// is tells whether a node is what a row's kind says.
func (n node) is(kind api.NodeKind) bool {
	if kind == bareProc {
		return n.kind == api.Proc && n.blocks == 0
	}
	return n.kind == kind
}
