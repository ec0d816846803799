package driver_test

import (
	"fmt"
	"strings"
	"testing"

	"colophon/api"
	"colophon/driver"
	"colophon/format"
	"colophon/samples"
	"colophon/scan"
)

// head is what most sources here begin with, and headTold what is told of it, once a token behind it is sure that ends
// nothing of it.
const (
	head     = "program p;begin skip "
	headTold = "program p;\nbegin\n  skip"
)

// answer is what a call tells: a text, whether all is the same, what is wrong.
type answer struct {
	text  string
	same  bool
	wrong string
}

func (a answer) String() string {
	return fmt.Sprintf("%s %v %s", samples.Short(a.text), a.same, a.wrong)
}

// quiet is the answer of a driver that only checks.
func (a answer) quiet() answer { return answer{same: a.same, wrong: a.wrong} }

func told(text string) answer { return answer{text: text} }

func refused(text, wrong string) answer { return answer{text: text, wrong: wrong} }

// made is a driver that is open.
func made(t testing.TB, o api.Options) *driver.Driver {
	t.Helper()
	d, err := driver.New(o)
	if err != nil || d == nil {
		t.Fatalf("New(%v): %v, %v", o, d, err)
	}
	return d
}

func fed(d *driver.Driver, s string) answer {
	text, err := d.Feed(s)
	return answer{text: text, wrong: samples.FaultWord(err)}
}

func closed(d *driver.Driver) answer {
	text, same, err := d.Close()
	return answer{text, same, samples.FaultWord(err)}
}

// plays feeds chunks, closes, and holds what each of these calls tells; and does so with Check.
func plays(t *testing.T, width int, chunks []string, want ...answer) {
	t.Helper()
	loud, quiet := made(t, api.Options{Width: width}), made(t, api.Options{Width: width, Check: true})
	for i, w := range want {
		var got, still answer
		if i < len(chunks) {
			got, still = fed(loud, chunks[i]), fed(quiet, chunks[i])
		} else {
			got, still = closed(loud), closed(quiet)
		}
		if got != w {
			t.Errorf("width %d, %.200q, call %d: %s, not %s", width, chunks, i+1, got, w)
		}
		if still != w.quiet() {
			t.Errorf("width %d, %.200q, call %d with Check: %s, not %s", width, chunks, i+1, still, w.quiet())
		}
	}
}

// together is what the calls tell of chunks, up to the first error or to Close, as one.
func together(t testing.TB, o api.Options, chunks ...string) answer {
	t.Helper()
	d := made(t, o)
	var all strings.Builder
	for _, s := range chunks {
		got := fed(d, s)
		all.WriteString(got.text)
		if got.wrong != "" {
			return refused(all.String(), got.wrong)
		}
	}
	got := closed(d)
	all.WriteString(got.text)
	return answer{all.String(), got.same, got.wrong}
}

// byBytes are a source's chunks of so many bytes, the last one of what is left.
func byBytes(source string, size int) []string {
	var l []string
	for at := 0; at < len(source); at += size {
		l = append(l, source[at:min(at+size, len(source))])
	}
	return l
}

// formatted is what format tells of a source.
func formatted(width int, source string) answer {
	text, err := format.Format(width, source)
	return answer{text, err == nil && text == source, samples.FaultWord(err)}
}

// tokens are those of a source that has no error.
func tokens(source string) []api.Tok {
	l, code, at := scan.All(source)
	if code != api.OK {
		panic(fmt.Sprintf("%q: %s", source, samples.FaultAt(code, at)))
	}
	return l
}
