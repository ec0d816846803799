package grammar

import "colophon/api"

// Some is a program, the greater the size is; pick says which of n comes next.
func (g *Grammar) Some(pick func(n int) int, size int) []api.Tok {
	m := maker{g: g, pick: pick}
	m.put(item{kind: call, name: "Program"}, size)
	return m.made
}

// few is how many calls deep the choices still go where nothing is put in any more that may be left out.
const few = 4

// maker makes a program.
type maker struct {
	g    *Grammar
	pick func(n int) int
	made []api.Tok
}

// put makes an item. Its parts share its size; without any it has no more than it must.
func (m *maker) put(it item, size int) {
	switch it.kind {
	case token:
		m.made = append(m.made, m.some(it.tok))
	case call:
		m.put(m.g.named[it.name], size-1)
	case named:
		m.put(it.parts[0], size)
	case row:
		for _, part := range it.parts {
			m.put(part, share(size, it.parts))
		}
	case choice:
		m.put(it.parts[m.upTo(len(it.parts), size+few)], size)
	case many:
		times := m.upTo(6, size)
		for range times {
			m.put(it.parts[0], size/times)
		}
	case maybe:
		for range m.upTo(2, size) {
			m.put(it.parts[0], size)
		}
	}
}

// share is what each of some parts has of a size; tokens need none.
func share(size int, parts []item) int {
	n := 0
	for _, part := range parts {
		if part.kind != token {
			n++
		}
	}
	if size <= 0 || n == 0 {
		return size
	}
	return size / n
}

func (m *maker) upTo(n, size int) int {
	if size <= 0 {
		return 0
	}
	return m.pick(n)
}

// some is a token of such a sort.
func (m *maker) some(t api.Tok) api.Tok {
	texts := []string{t.Text}
	switch t.Kind {
	case api.TokName:
		texts = []string{"a", "b", "x1", "été", "日本", "some_longer_name"}
	case api.TokNumber:
		texts = []string{"0", "7", "1000000"}
	case api.TokText:
		texts = []string{`""`, `"t"`, "\"日\xff\"", `"some longer text"`}
	case api.TokChar:
		texts = []string{"'c'", "'\xff'", "'日'"}
	}
	t.Text = texts[m.pick(len(texts))]
	return t
}
