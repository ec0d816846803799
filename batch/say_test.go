package batch_test

import (
	"fmt"
	"math/rand/v2"
	"slices"
	"strconv"
	"strings"
	"testing"

	"colophon/api"
	"colophon/batch"
	"colophon/format"
	"colophon/grammar"
	"colophon/samples"
)

// source is the chapter's, and formed is what Format tells of it.
const (
	source = "program p;begin skip end."
	formed = "program p;\nbegin\n  skip\nend.\n"
)

// word tells an outcome.
func word(o api.Outcome) string {
	return fmt.Sprint(samples.Short(o.Name), " ", samples.Short(o.Text), " ", o.Same, " ", samples.FaultAt(o.Fault.Code, o.Fault.Place))
}

// good is the outcome of a file that is taken.
func good(name, text string, same bool) api.Outcome {
	return api.Outcome{Name: name, Text: text, Same: same}
}

// bad is the outcome of a file that is refused.
func bad(name string, code api.Errno, at, line, column int) api.Outcome {
	return api.Outcome{Name: name, Fault: api.Fault{Code: code, Place: api.Place{At: at, Line: line, Column: column}}}
}

// run is what Run tells of files that it takes.
func run(t *testing.T, width, workers int, l []api.File) []api.Outcome {
	t.Helper()
	got, code := batch.Run(width, workers, l)
	if code != api.OK || len(got) != len(l) {
		t.Fatalf("%d files at %d, %d workers: %d outcomes, %s", len(l), width, workers, len(got), samples.ErrorWord(code))
	}
	return got
}

// equals holds outcomes against those that are to be told.
func equals(t *testing.T, got, want []api.Outcome) {
	t.Helper()
	if len(got) != len(want) {
		t.Fatalf("%d outcomes, not %d", len(got), len(want))
	}
	for i := range got {
		if got[i] != want[i] {
			t.Fatalf("outcome %d of %d: %s, not %s", i, len(got), word(got[i]), word(want[i]))
		}
	}
}

// holds holds what Run tells of files, by one worker and by several.
func holds(t *testing.T, width int, l []api.File, want []api.Outcome) {
	t.Helper()
	for _, workers := range []int{1, 2, 5, 16} {
		equals(t, run(t, width, workers, l), want)
	}
}

// refuses holds that Run tells an error and nothing else.
func refuses(t *testing.T, width, workers int, l []api.File, want api.Errno) {
	t.Helper()
	if got, code := batch.Run(width, workers, l); code != want || len(got) != 0 {
		t.Errorf("%d files at %d, %d workers: %d outcomes, %s, not %s", len(l), width, workers, len(got), samples.ErrorWord(code), samples.ErrorWord(want))
	}
}

// files are so many, each with a name and a text of its own; among any three of them one is formatted at 72, and one wrong.
func files(size int) []api.File {
	l := make([]api.File, size)
	for i := range l {
		n := strconv.Itoa(i)
		text := "program p" + n + ";begin x:=" + n + " end."
		switch i % 3 {
		case 1:
			text = samples.Lines("program p"+n+";", "begin", "  x := "+n, "end.")
		case 2:
			text = strings.Repeat("\n", i) + "? " + text
		}
		l[i] = api.File{Name: n, Text: text}
	}
	return l
}

// outcomes are those of such files at 72, told by hand.
func outcomes(size int) []api.Outcome {
	l := make([]api.Outcome, size)
	for i := range l {
		n := strconv.Itoa(i)
		l[i] = good(n, samples.Lines("program p"+n+";", "begin", "  x := "+n, "end."), i%3 == 1)
		if i%3 == 2 {
			l[i] = bad(n, api.ErrScanByte, i, i+1, 1)
		}
	}
	return l
}

// someFiles are programs of every size, with comments, some of them formatted at a width, some cut off, and such as have
// every error, in no order.
func someFiles(t *testing.T, r *rand.Rand, width, size int) []api.File {
	t.Helper()
	g := grammar.New()
	var texts []string
	for range size {
		text := samples.SomeGapped(r.IntN, g.Some(r.IntN, r.IntN(60)))
		switch r.IntN(4) {
		case 0:
			text = formatted(t, width, text)
		case 1:
			text = text[:r.IntN(len(text)+1)]
		}
		texts = append(texts, text)
	}
	for _, c := range samples.Wrongs() {
		texts = append(texts, c.Source)
	}
	r.Shuffle(len(texts), func(i, j int) { texts[i], texts[j] = texts[j], texts[i] })
	var l []api.File
	for i, text := range texts[:min(size, len(texts))] {
		l = append(l, api.File{Name: "file " + strconv.Itoa(i/2), Text: text})
	}
	return l
}

// formatted is what format tells of a source that it takes.
func formatted(t *testing.T, width int, source string) string {
	t.Helper()
	text, err := format.Format(width, source)
	if err != nil {
		t.Fatalf("%s at %d: %v", samples.Short(source), width, err)
	}
	return text
}

// spare are files with room behind them, in which others stand.
func spare(l []api.File) []api.File {
	all := append(slices.Clone(l), files(8)...)
	return all[:len(l)]
}
