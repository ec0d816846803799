package stream_test

import (
	"math/rand/v2"
	"runtime"
	"slices"
	"strings"
	"sync"
	"testing"
	"unsafe"
	"weak"

	"colophon/api"
	"colophon/samples"
	"colophon/stream"
)

// The pieces of all kinds, in all short layouts that may be, at all small widths. As the layouts that begin alike are all
// gone through, what was told behind a piece is held against whatever may come.
func TestP9_4AllShortLayouts(t *testing.T) {
	for _, c := range []struct {
		words string
		most  int
		upTo  int
	}{
		{"a bb S B0 B1 H E [0 [1 [e2 ] a|bb", 5, 6},
		{"aa S B1 H E [1 [e1 ]", 6, 5},
		{"a B1 E [1 [e1 ]", 7, 4},
		{"a B0 [1 [e2 ]", 8, 4},
		{"日 \u0301 \xff B0 B2 [e1 ] a_|\xff日", 6, 4},
		{"a B2 H [1 ]", 8, 4},
		{"a B1 B0 [e3 [0 ]", 7, 5},
	} {
		t.Run(c.words, func(t *testing.T) {
			t.Parallel()
			met := 0
			for l := range samples.Layouts(c.words, c.most) {
				met++
				for columns := 1; columns <= c.upTo; columns++ {
					follows(t, columns, l)
				}
			}
			if met < 10000 {
				t.Errorf("only %d layouts", met)
			}
		})
	}
}

// kinds are words for greater layouts.
var kinds = []string{
	"a bb ccc S B0 B1 B1 B3 H E [0 [1 [2 [e0 [e2 [e3 ] a|bb 日 \u0301 \xff",
	"a bb ccc dddd B1 B1 B1 [2 [2 [e2 [e2 ]",
	"a B1 B1 B1000 S [1 [400 [e700 [1000 ] ] ] H E x|y",
	"a B1 B0 \u0301 [1 [0 [e0 [e2 ] ]",
}

var someWidths = []int{1, 2, 3, 5, 8, 13, 21, 40, 80, 1000, 1400, 4096}

func TestP9_4SomeGreaterLayouts(t *testing.T) {
	r := rand.New(rand.NewPCG(9, 4))
	for _, words := range kinds {
		for range 500 {
			l := samples.SomeLayout(r.IntN, words, r.IntN(80))
			for _, columns := range someWidths {
				follows(t, columns, l)
			}
		}
	}
}

// What was told behind some pieces is a beginning of what is printed, in however many ways they go on.
func TestP9_4WaysToGoOn(t *testing.T) {
	r := rand.New(rand.NewPCG(9, 44))
	great := api.Doc{Kind: api.Text, Text: strings.Repeat("g", 5000)}
	met := 0
	for _, words := range kinds {
		for range 300 {
			columns := someWidths[r.IntN(len(someWidths))]
			first := samples.SomePieces(r.IntN, words, r.IntN(60))
			ends := slices.Repeat(of("]"), open(first))
			p := made(t, columns)
			told := putAll(t, p, first)
			met += p.Held()
			for _, rest := range [][]api.Doc{
				nil, of("a"), of("S"), of("B0"), of("B1 a"), of("H"), of("E"), of("H E a"), of("[e2 a B1 b ]"), {great},
				samples.SomeLayout(r.IntN, words, 50), samples.SomeLayout(r.IntN, words, 50), samples.SomeLayout(r.IntN, words, 9),
			} {
				within := slices.Concat(first, rest, ends)
				behind := slices.Concat(first, ends, rest)
				for _, l := range [][]api.Doc{within, behind} {
					if all := printed(t, columns, l); !strings.HasPrefix(all, told) {
						t.Fatalf("width %d, %s, behind %d pieces: %q is no beginning of %q", columns, samples.Words(l), len(first), told, all)
					}
				}
			}
		}
	}
	if met < 1000 {
		t.Errorf("only %d pieces were held", met)
	}
}

// open is how many blocks are open behind pieces.
func open(l []api.Doc) int {
	n := 0
	for _, d := range l {
		switch d.Kind {
		case api.Begin:
			n++
		case api.End:
			n--
		}
	}
	return n
}

func TestP9_4LongLayouts(t *testing.T) {
	r := rand.New(rand.NewPCG(9, 9))
	for _, words := range kinds {
		l := samples.SomeLayout(r.IntN, words, 100000)
		for _, columns := range someWidths {
			tells(t, columns, l, printed(t, columns, l))
		}
	}
}

func TestP9_5BehindAHardOutsideOfAllBlocks(t *testing.T) {
	hard := samples.Piece("H")
	met := 0
	for l := range samples.Layouts("a S B1 E [0 [e1 ] x|y", 6) {
		for _, columns := range []int{1, 3, 4096} {
			p := made(t, columns)
			putAll(t, p, l)
			met += p.Held()
			if put(t, p, hard); p.Held() != 0 {
				t.Fatalf("width %d, %s: Held() = %d behind a Hard", columns, samples.Words(l), p.Held())
			}
		}
	}
	if met < 10000 {
		t.Errorf("only %d pieces were held", met)
	}
}

// Nothing is held ahead of a Text that is wider than any room, and so it is printed itself, wherever it stands.
func TestP9_5BehindATextWiderThanAnyRoom(t *testing.T) {
	great := api.Doc{Kind: api.Text, Text: strings.Repeat("a", 4097)}
	lines := samples.Piece("{|}")
	r := rand.New(rand.NewPCG(9, 5))
	met := 0
	for _, words := range kinds {
		for range 1000 {
			l := samples.SomePieces(r.IntN, words, r.IntN(40))
			for _, columns := range []int{1, 7, 80, 4096} {
				for _, d := range []api.Doc{great, lines} {
					p := made(t, columns)
					putAll(t, p, l)
					met += p.Held()
					if s := put(t, p, d); p.Held() != 0 || !strings.HasSuffix(s, d.Text) {
						t.Fatalf("width %d, %s: %s, Held() = %d behind the Text", columns, samples.Words(l), samples.Short(s), p.Held())
					}
				}
			}
		}
	}
	if met < 10000 {
		t.Errorf("only %d pieces were held", met)
	}
	// A Text that is as wide as the widest room may be held.
	says(t, 4096, "[0::1 "+strings.Repeat("a", 4096)+"::2")
}

// answers are what a printer tells of a layout, call by call.
func answers(t *testing.T, p *stream.Printer, l []api.Doc) (told []string, held []int) {
	t.Helper()
	for _, d := range l {
		told = append(told, put(t, p, d))
		held = append(held, p.Held())
	}
	return append(told, closed(t, p)), held
}

func TestR2PrintersSideBySide(t *testing.T) {
	r := rand.New(rand.NewPCG(9, 2))
	for range 200 {
		size := 1 + r.IntN(60)
		var ls [3][]api.Doc
		var ps [3]*stream.Printer
		var want, got [3][]string
		for i := range ls {
			ls[i] = samples.SomeLayout(r.IntN, kinds[i], size)
			want[i], _ = answers(t, made(t, 5+i), ls[i])
			ps[i] = made(t, 5+i)
		}
		for k := range 2*size + 1 {
			for i, p := range ps {
				switch {
				case k < len(ls[i]):
					got[i] = append(got[i], put(t, p, ls[i][k]))
				case k == len(ls[i]):
					got[i] = append(got[i], closed(t, p))
				}
			}
		}
		for i := range ls {
			if !slices.Equal(got[i], want[i]) {
				t.Fatalf("%s: in turns %q, alone %q", samples.Words(ls[i]), got[i], want[i])
			}
		}
	}
}

func TestR2PrintersInGoroutines(t *testing.T) {
	l := samples.SomeLayout(rand.New(rand.NewPCG(9, 3)).IntN, kinds[0], 2000)
	want := printed(t, 20, l)
	var wait sync.WaitGroup
	for range 8 {
		wait.Go(func() {
			p, _ := stream.New(20)
			var all strings.Builder
			for _, d := range l {
				s, _ := p.Put(d)
				all.WriteString(s)
			}
			s, _ := p.Close()
			if all.WriteString(s); all.String() != want {
				t.Error("a printer tells something else in a goroutine")
			}
		})
	}
	wait.Wait()
}

// What is told is new memory: no Text is handed out again.
func TestR2WhatIsToldIsNew(t *testing.T) {
	text := strings.Clone("some text")
	for _, words := range []string{"", "[2", "H", "[e2 B1"} {
		p := made(t, 80)
		putAll(t, p, of(words))
		s := put(t, p, api.Doc{Kind: api.Text, Text: text})
		if open(of(words)) > 0 {
			s += put(t, p, samples.Piece("]"))
		}
		if s != text || unsafe.StringData(s) == unsafe.StringData(text) {
			t.Errorf("behind %q: %q is the Text itself, or another one", words, s)
		}
	}
}

// putGreat puts a Text that no one else has.
func putGreat(t *testing.T, p *stream.Printer) weak.Pointer[byte] {
	text := strings.Repeat("great", 200)
	put(t, p, api.Doc{Kind: api.Text, Text: text})
	return weak.Make(unsafe.StringData(text))
}

// A piece is kept as long as it is held, and no longer.
func TestR2NothingIsKeptThatIsNotHeld(t *testing.T) {
	for _, c := range []struct {
		ahead, behind string
		kept          bool
	}{
		{"", "", false},
		{"a H", "", false},
		{"[2", "a", true},
		{"[2", "]", false},
		{"a B1", "b", true},
		{"a B1", "B1", false},
		{"a B1", "H", false},
		{"[2", "H", false},
	} {
		p := made(t, 4096)
		putAll(t, p, of(c.ahead))
		text := putGreat(t, p)
		putAll(t, p, of(c.behind))
		runtime.GC()
		if kept := text.Value() != nil; kept != c.kept {
			t.Errorf("%q, the Text, %q: kept %t", c.ahead, c.behind, kept)
		}
		runtime.KeepAlive(p)
	}
}
