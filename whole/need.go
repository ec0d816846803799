package whole

import (
	"slices"
	"strings"

	"colophon/api"
	"colophon/width"
)

// tooWide stands for all widths that no room has, so that no sum of widths grows beyond any number.
const tooWide = api.MaxWidth + 1

// needs is how much room each piece looks for: a Begin for its block, a Break for what hangs on it; 0 of any other.
func needs(l []api.Doc) []int {
	need := make([]int, len(l))
	tell := teller()
	for i, d := range slices.Backward(l) {
		need[i] = tell(d)
	}
	return need
}

// span is how wide a block's pieces are from one of them on.
type span struct {
	all  int // up to its End
	hang int // up to its next Break, Hard or Empty, or its End
}

func (s *span) widen(columns int) {
	s.all = min(s.all+columns, tooWide)
	s.hang = min(s.hang+columns, tooWide)
}

// teller gives a function that is handed a layout's pieces from the last one to the first, and tells what each needs. So
// each width is known when it is asked for, and no piece is looked at twice.
func teller() func(d api.Doc) int {
	var block span
	var around []span
	return func(d api.Doc) int {
		need := 0
		switch d.Kind {
		case api.End:
			around = append(around, block)
			block = span{}
		case api.Begin:
			need = block.all
			last := len(around) - 1
			block, around = around[last], around[:last]
			block.widen(need)
		case api.Break:
			block.widen(d.Blanks)
			need = block.hang
			block.hang = 0
		case api.Hard, api.Empty:
			block.widen(tooWide)
			block.hang = 0
		case api.Blank:
			block.widen(1)
		case api.Text:
			block.widen(columns(d.Text))
		}
		return need
	}
}

func columns(t string) int {
	if strings.Contains(t, "\n") {
		return tooWide
	}
	return width.Text(t)
}
