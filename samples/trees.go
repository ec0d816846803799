package samples

import (
	"slices"
	"strings"

	"colophon/api"
)

// Trees are all trees of at most so many nodes and tokens. They share their parts: what changes one copies it first.
func Trees(tokens []api.Tok, kinds []api.NodeKind, most int) []api.Node {
	var all []api.Node
	trees := make([][]api.Node, most+1)  // by how many nodes and tokens they have
	rows := make([][][]api.Node, most+1) // of trees that have so many together
	rows[0] = [][]api.Node{nil}
	for size := 1; size <= most; size++ {
		if size == 1 {
			for _, t := range tokens {
				trees[size] = append(trees[size], api.Node{Tok: t})
			}
		}
		for _, kind := range kinds {
			for _, row := range rows[size-1] {
				trees[size] = append(trees[size], api.Node{Kind: kind, Kids: row})
			}
		}
		for first := 1; first <= size; first++ {
			for _, n := range trees[first] {
				for _, row := range rows[size-first] {
					rows[size] = append(rows[size], append([]api.Node{n}, row...))
				}
			}
		}
		all = append(all, trees[size]...)
	}
	return all
}

// SomeTree is a node in which so many nodes and tokens stand; pick says which of n comes next.
func SomeTree(pick func(n int) int, tokens []api.Tok, kinds []api.NodeKind, size int) api.Node {
	var some func(outermost bool) api.Node
	some = func(outermost bool) api.Node {
		n := api.Node{Kind: kinds[pick(len(kinds))]}
		for size > 0 && (outermost || pick(3) > 0) {
			size--
			kid := api.Node{Tok: tokens[pick(len(tokens))]}
			if pick(2) == 0 {
				kid = some(false)
			}
			n.Kids = append(n.Kids, kid)
		}
		return n
	}
	return some(true)
}

// EqualTrees: are two trees the same in every field? (A list without elements is nil or not.)
func EqualTrees(a, b api.Node) bool {
	return a.Kind == b.Kind && a.Tok == b.Tok && slices.EqualFunc(a.Kids, b.Kids, EqualTrees)
}

// CopyTree is a tree that shares no list with the one that is copied.
func CopyTree(n api.Node) api.Node {
	n.Kids = slices.Clone(n.Kids)
	for i, kid := range n.Kids {
		n.Kids[i] = CopyTree(kid)
	}
	return n
}

// TreeWord tells a tree as the document does: {Sum: a, {Term: b}}, each token with all that it has; of a great one its
// beginning and its end. What has no meaning there, and is not zero, stands behind in brackets.
func TreeWord(n api.Node) string {
	const some = 600
	word := treeWord(n)
	if len(word) <= 2*some {
		return word
	}
	return word[:some] + " .. " + word[len(word)-some:]
}

func treeWord(n api.Node) string {
	var kids []string
	for _, kid := range n.Kids {
		kids = append(kids, treeWord(kid))
	}
	within := strings.Join(kids, ", ")
	switch {
	case n.Kind != 0 && n.Tok != (api.Tok{}):
		return "{" + NodeWord(n.Kind) + ": " + within + "}(" + TokWord(n.Tok) + ")"
	case n.Kind != 0:
		return "{" + NodeWord(n.Kind) + ": " + within + "}"
	case len(n.Kids) > 0:
		return TokWord(n.Tok) + "(" + within + ")"
	}
	return TokWord(n.Tok)
}
