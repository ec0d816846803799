package samples

import (
	"strconv"
	"strings"

	"colophon/api"
)

// nodes are what tests call the kinds of nodes, in api's order; there is none of kind 0.
var nodes = [...]string{
	"", "Program", "Block", "Var", "Const", "Proc", "Params", "Param", "NameType", "Array", "Record", "Member",
	"Body", "Skip", "Act", "If", "While", "For", "Repeat", "Return", "Compound",
	"Expr", "Rel", "Sum", "Term", "Minus", "Not", "Group", "Object", "Index", "Select", "Args", "Value",
}

// NodeWord is what a test calls a node's kind.
func NodeWord(k api.NodeKind) string {
	if k > 0 && int(k) < len(nodes) {
		return nodes[k]
	}
	return "node " + strconv.Itoa(int(k))
}

// NodeOf is the kind that a word stands for; 0: none.
func NodeOf(word string) api.NodeKind {
	for k, n := range nodes {
		if n == word {
			return api.NodeKind(k)
		}
	}
	return 0
}

// EventWord tells an event as the document does: +X opens, -X closes X, a text is its Leaf; a Note has its text behind it.
// What has no meaning there, and is not zero, stands behind.
func EventWord(e api.Event) string {
	word := "event " + strconv.Itoa(int(e.Kind))
	node, tok := e.Node, e.Tok
	switch e.Kind {
	case api.Open:
		word, node = "+"+NodeWord(node), 0
	case api.Close:
		word, node = "-"+NodeWord(node), 0
	case api.Leaf:
		word, tok = tok.Text, api.Tok{}
	case api.Note:
		word, tok = "note:"+tok.Text, api.Tok{}
	}
	if node != 0 {
		word += "(" + NodeWord(node) + ")"
	}
	if tok != (api.Tok{}) {
		word += "(" + TokWord(tok) + ")"
	}
	return word
}

// EventsWord tells events, of many the first and the last ones, and an error.
func EventsWord(l []api.Event, code api.Errno) string {
	const some = 40
	var words []string
	for i, e := range l {
		if i == some && len(l) > 2*some {
			words = append(words, "..", "("+strconv.Itoa(len(l)), "events)", "..")
		}
		if i < some || i >= len(l)-some {
			words = append(words, EventWord(e))
		}
	}
	if code != api.OK {
		words = append(words, ErrorWord(code))
	}
	return strings.Join(words, " ")
}
