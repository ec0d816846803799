package sink_test

import (
	"math/rand/v2"
	"runtime"
	"strings"
	"testing"
	"unsafe"
	"weak"

	"colophon/samples"
	"colophon/sink"
)

// steps are all kinds of calls.
var steps = []step{
	text(""), text("a"), text("\u65e5"), text("\u0301"), text("\xff"), text("\xe6\x97"), text(" "), text("b "),
	text("\n"), text("x\nyy"), text("x \n"), text("\n\n\u65e5"),
	blanks(0), blanks(1), blanks(2), blanks(-1), blanks(1048577),
	feed(0), feed(1), feed(3), feed(-1), feed(1048577),
	empty(), take(),
}

// few are one or two calls of each kind, for longer scripts.
var few = []step{text("a"), text("x\ny"), blanks(1), feed(2), empty(), take()}

// As the beginnings of a script are scripts too, all that is written by then is looked at behind the last step alone.
func TestP6_8AllShortScripts(t *testing.T) {
	for script := range samples.Texts(parts(steps), 4) {
		testScript(t, read(steps, script)...)
	}
	for script := range samples.Texts(parts(few), 7) {
		testScript(t, read(few, script)...)
	}
}

// longScript is so many steps, picked the same way each time.
func longScript(seed uint64, count int) []step {
	pick := rand.New(rand.NewPCG(6, seed))
	var script []step
	for range count {
		script = append(script, steps[pick.IntN(len(steps))])
	}
	return script
}

func TestP6_8LongScripts(t *testing.T) {
	for seed := range uint64(20) {
		testScript(t, longScript(seed, 2000)...)
	}
}

// written is what all Takes tell, with Take called behind the steps that when picks, and at the end.
func written(s *sink.Sink, script []step, when func(k int) bool) string {
	var all strings.Builder
	for k, step := range script {
		all.WriteString(step.do(s).t)
		if when(k) {
			all.WriteString(s.Take())
		}
	}
	all.WriteString(s.Take())
	return all.String()
}

func TestP6_8TakesAtAnyTime(t *testing.T) {
	once := func(int) bool { return false }
	some := []step{text("a"), text("\u65e5 \n"), blanks(2), feed(0), feed(3), empty()}
	for letters := range samples.Texts(parts(some), 5) {
		script := read(some, letters)
		s := made(t)
		all := written(s, script, once)
		for times := range 1 << len(script) {
			o := made(t)
			if got := written(o, script, func(k int) bool { return times>>k&1 == 1 }); got != all {
				t.Fatalf("%s, taken behind %b: %q, not %q", names(script), times, got, all)
			}
			if d := differ(o, s); d != "" {
				t.Fatalf("%s, taken behind %b: %s", names(script), times, d)
			}
		}
	}
}

func TestP6_8TakesAtAnyTimeOfLongScripts(t *testing.T) {
	script := longScript(77, 30000)
	s := made(t)
	all := written(s, script, func(int) bool { return false })
	if len(all) < 10000 {
		t.Fatalf("only %d bytes were written", len(all))
	}
	for _, often := range []int{1, 2, 3, 10, 1000} {
		o := made(t)
		if got := written(o, script, func(k int) bool { return k%often == 0 }); got != all {
			t.Errorf("taken at each %d. step: %s, not %s", often, short(got), short(all))
		}
		if d := differ(o, s); d != "" {
			t.Errorf("taken at each %d. step: %s", often, d)
		}
	}
}

// A text is written with nothing but blanks ahead of it, and nothing behind; Feed and Empty write nothing but a line feed.
// So blanks stand only ahead of texts.
func TestP6_8NoBlanksAtLinesEnds(t *testing.T) {
	some := []step{text("a"), text("b "), text("c\n"), text("d\n e"), blanks(3), feed(0), feed(2), empty()}
	texts := map[string]string{some[0].name: "a", some[1].name: "b ", some[2].name: "c\n", some[3].name: "d\n e"}
	ends, inner := 0, 0
	for letters := range samples.Texts(parts(some), 6) {
		s := made(t)
		for _, step := range read(some, letters) {
			step.do(s)
			more := s.Take()
			blanks, found := strings.CutSuffix(more, texts[step.name])
			switch {
			case texts[step.name] == "" && more == "\n":
				ends++
			case texts[step.name] == "" && more == "":
			case texts[step.name] != "" && found && strings.Trim(blanks, " ") == "":
				inner += len(blanks)
			default:
				t.Fatalf("%s: %s wrote %q", names(read(some, letters)), step.name, more)
			}
		}
	}
	if ends < 1000 || inner < 1000 {
		t.Errorf("only %d lines were ended, and %d blanks written", ends, inner)
	}
}

// trailing is how many blanks a text ends in.
func trailing(t string) int { return len(t) - len(strings.TrimRight(t, " ")) }

// Texts without blanks and line feeds, whatever else is called: no line that is written ends in a blank, and none is
// made of them alone.
func TestP6_8LinesOfTextsWithoutBlanks(t *testing.T) {
	some := []step{text("a"), text(""), text("\u65e5\xff"), blanks(1), blanks(5), feed(0), feed(4), empty()}
	pick := rand.New(rand.NewPCG(6, 6))
	for range 300 {
		s := made(t)
		all := ""
		for range 100 {
			some[pick.IntN(len(some))].do(s)
			all += s.Take()
			if trailing(all) > 0 {
				t.Fatalf("it ends in a blank: %q", all)
			}
		}
		if strings.Contains(all, " \n") || !strings.Contains(all, "\n ") {
			t.Fatalf("a line ends in a blank, or none begins with one: %q", all)
		}
	}
}

// Column hangs on what was written since the last line feed, and on what waits: whatever happened ahead of that feed,
// the line goes on alike.
func TestP6_8ColumnSinceTheLastFeed(t *testing.T) {
	some := []step{text("a\u65e5"), text("x\ny"), blanks(1), feed(0), feed(3), empty()}
	rest := []step{blanks(2), text("\u65e5"), blanks(1), text("\u0301\xff"), feed(1), empty(), text("b")}
	for _, first := range []step{feed(0), feed(5), text("\n"), text("ab\n\u65e5c")} {
		for letters := range samples.Texts(parts(some), 4) {
			o, n := behind(t, read(some, letters)), made(t)
			first.do(o)
			first.do(n)
			o.Take()
			n.Take()
			for _, step := range rest {
				step.do(o)
				step.do(n)
				if d := differ(o, n); d != "" {
					t.Fatalf("%s, %s, then %s: %s", names(read(some, letters)), first.name, step.name, d)
				}
			}
		}
	}
}

func TestR2SinksSideBySide(t *testing.T) {
	a, b, c := newPair(t), newPair(t), newPair(t)
	first, second := longScript(1, 500), longScript(2, 500)
	for k := range first {
		for name, s := range map[string]string{
			"first":  a.do(first[k]),
			"second": b.do(second[k]),
			"third":  c.do(first[k], second[k]),
		} {
			if s != "" {
				t.Fatalf("round %d, the %s one: %s", k, name, s)
			}
		}
	}
	for _, p := range []pair{a, b, c} {
		if s := differ(p.sink, p.page); s != "" {
			t.Error(s)
		}
	}
}

// writeGreat writes a text that no one else holds.
func writeGreat(s *sink.Sink) weak.Pointer[byte] {
	t := strings.Repeat("great ", 10000)
	s.Text(t)
	return weak.Make(unsafe.StringData(t))
}

// A text that is handed in is copied, not kept.
func TestR2NoTextIsKept(t *testing.T) {
	s := made(t)
	held := []weak.Pointer[byte]{writeGreat(s), writeGreat(s)}
	runtime.GC()
	for i, p := range held {
		if p.Value() != nil {
			t.Errorf("text %d is kept", i)
		}
	}
	want(t, "Take()", len(s.Take()), 120000)
	runtime.KeepAlive(s)
}

// inUse is how many bytes of memory are held on to.
func inUse() int64 {
	var m runtime.MemStats
	runtime.GC()
	runtime.ReadMemStats(&m)
	return int64(m.HeapAlloc)
}

// What was taken is not kept either.
func TestR2NothingTakenIsKept(t *testing.T) {
	s := made(t)
	was := inUse()
	s.Text(strings.Repeat("a", 1<<26))
	if n := inUse() - was; n < 1<<25 {
		t.Errorf("ahead of Take %d bytes are kept", n)
	}
	want(t, "Take()", len(s.Take()), 1<<26)
	if n := inUse() - was; n > 1<<20 {
		t.Errorf("behind Take %d bytes are kept", n)
	}
	runtime.KeepAlive(s)
}

// Wide indents are numbers till they are taken: what is written may be more than could be told in one answer, if no one
// asks for it.
func TestR4WideIndents(t *testing.T) {
	s := made(t)
	was := inUse()
	for range 40 {
		s.Feed(1048576)
		s.Blanks(1048576)
		s.Text("a")
		want(t, "Column()", s.Column(), 2097153)
	}
	if n := inUse() - was; n > 1<<20 {
		t.Errorf("%d bytes are kept", n)
	}
	if all := s.Take(); all != strings.Repeat("\n"+strings.Repeat(" ", 2097152)+"a", 40) {
		t.Errorf("Take() = %s", short(all))
	}
}
