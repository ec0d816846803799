package format_test

import (
	"math/rand/v2"
	"runtime"
	"slices"
	"strings"
	"sync"
	"testing"
	"unsafe"
	"weak"

	"colophon/api"
	"colophon/format"
	"colophon/grammar"
	"colophon/samples"
)

// sources are programs and such as are none.
func sources() []string {
	g := grammar.New()
	r := rand.New(rand.NewPCG(16, 5))
	all := []string{"", ";", "?", "program p;begin '' end", head, strings.Repeat(" ", api.MaxText+1)}
	for size := range 60 {
		source := samples.SomeGapped(r.IntN, g.Some(r.IntN, 4*size))
		all = append(all, source, source[:r.IntN(len(source))])
	}
	return all
}

// The same again: an answer hangs on nothing that was ahead of it, be that an error or not.
func TestR2TheSameAgain(t *testing.T) {
	all := sources()
	var laid, told []answer
	for _, source := range all {
		laid, told = append(laid, layout(source)), append(told, formatted(30, source))
	}
	for i, source := range slices.Backward(all) {
		if got := formatted(30, source); !got.same(told[i]) {
			t.Fatalf("%s: %s, and ahead of that %s", samples.Short(source), got, told[i])
		}
		if got := layout(source); !got.same(laid[i]) {
			t.Fatalf("%s: %s, and ahead of that %s", samples.Short(source), got, laid[i])
		}
	}
}

func TestR2Goroutines(t *testing.T) {
	all := sources()
	var want []answer
	for _, source := range all {
		want = append(want, formatted(30, source))
	}
	var wait sync.WaitGroup
	for range 8 {
		wait.Go(func() {
			for i, source := range all {
				if got := formatted(30, source); !got.same(want[i]) {
					t.Errorf("%s: %s in a goroutine, not %s", samples.Short(source), got, want[i])
					return
				}
			}
		})
	}
	wait.Wait()
}

// A layout is the caller's own: what is written into it, and into its spare room, is seen in no other.
func TestR2ALayoutIsTheCallersOwn(t *testing.T) {
	for _, source := range sources() {
		first, second := layout(source), layout(source)
		want := answer{laid: slices.Clone(second.laid), wrong: second.wrong}
		all := first.laid[:cap(first.laid)]
		for i := range all {
			all[i] = api.Doc{Kind: 99, Text: "other"}
		}
		if !second.same(want) || !layout(source).same(want) {
			t.Fatalf("%s: another layout changed", samples.Short(source))
		}
	}
}

// A Fault is another one each time: what is written into it is seen in no other.
func TestR2AFaultIsAnotherOneEachTime(t *testing.T) {
	for _, c := range []struct {
		width  int
		source string
	}{{0, ""}, {72, strings.Repeat(" ", api.MaxText+1)}, {72, ";"}, {72, "?"}, {72, head}} {
		calls := []func() error{
			func() error { _, err := format.Format(c.width, c.source); return err },
			func() error { _, err := format.Layout(c.source); return err },
		}
		for _, call := range calls {
			first, second := call(), call()
			want := samples.FaultWord(second)
			f, ok := first.(*api.Fault)
			if !ok || first == second {
				t.Fatalf("%s: %v and %v", samples.Short(c.source), first, second)
			}
			*f = api.Fault{Code: 99, Place: api.Place{At: 98, Line: 97, Column: 96}}
			if samples.FaultWord(second) != want || samples.FaultWord(call()) != want {
				t.Fatalf("%s: another Fault changed", samples.Short(c.source))
			}
		}
	}
}

// layoutOfOwn is the layout of a source that no one else has, and where that stands.
func layoutOfOwn(source string) ([]api.Doc, error, weak.Pointer[byte]) {
	own := strings.Clone(source + " ")
	l, err := format.Layout(own)
	return l, err, weak.Make(unsafe.StringData(own))
}

// The source is not kept, and what is told shares no memory with it.
func TestR2TheSourceIsNotKept(t *testing.T) {
	great := strings.Repeat("{great}", 200)
	for _, source := range []string{head + "end." + great, "program p;begin a:=\"t\"+'c'+12 end.//" + great, great + "program p;begin", great + "begin", great + "?"} {
		l, err, own := layoutOfOwn(source)
		runtime.GC()
		if own.Value() != nil {
			t.Errorf("%s: the source is kept", samples.Short(source))
		}
		runtime.KeepAlive(l)
		runtime.KeepAlive(err)
	}
}

// No panic comes out, and each call ends, whatever the bytes are.
func TestR1AnyBytes(t *testing.T) {
	t.Parallel()
	r := rand.New(rand.NewPCG(16, 6))
	for range 20000 {
		b := make([]byte, r.IntN(30))
		for i := range b {
			b[i] = byte(r.IntN(256))
		}
		source := "program p;begin "[:r.IntN(17)] + string(b)
		got := layout(source)
		if good := len(got.laid) > 0 && got.wrong == ""; !good && !(len(got.laid) == 0 && strings.HasPrefix(got.wrong, "Err")) {
			t.Fatalf("%q: %s", source, got)
		}
	}
}

// Sources as long as they may be: a way that begins again at the front for each part would not end here.
func TestR1GreatSources(t *testing.T) {
	t.Parallel()
	for _, c := range []struct {
		source string
		tokens int
	}{
		{"program p;" + strings.Repeat("begin ", 497) + strings.Repeat("a;", 128000) + "a" + strings.Repeat(" end", 497) + ".", 256000 + 999},
		{"program p;begin a:=" + strings.Repeat("(", 190) + strings.Repeat("b+", 130000) + "b" + strings.Repeat(")", 190) + " end.", 260000 + 389},
		{"program p;begin skip end." + strings.Repeat("{}", 131000), 131000 + 7},
		{"program p;begin " + strings.Repeat("a:="+strings.Repeat("-", 980)+"b;", 250) + "c end.", 250*984 + 7},
		{"program p;begin a" + strings.Repeat("()", 131000) + " end.", 262000 + 7},
	} {
		got := layout(c.source)
		texts := 0
		for _, d := range got.laid {
			if d.Kind == api.Text {
				texts++
			}
		}
		if got.wrong != "" || texts != c.tokens {
			t.Errorf("%s: %d texts, %s", samples.Short(c.source), texts, got)
		}
		if got := formatted(72, c.source); got.wrong != "" || !strings.HasSuffix(got.text, "end.\n") && !strings.HasSuffix(got.text, "{}\n") {
			t.Errorf("%s: %s", samples.Short(c.source), got)
		}
	}
}
