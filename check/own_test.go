package check_test

import (
	"math/rand/v2"
	"runtime"
	"slices"
	"strings"
	"sync"
	"testing"
	"unsafe"
	"weak"

	"colophon/api"
	"colophon/check"
	"colophon/grammar"
	"colophon/samples"
)

// sources are programs, formatted and not, and such as are none.
func sources(t *testing.T) []string {
	g := grammar.New()
	r := rand.New(rand.NewPCG(18, 7))
	var all []string
	for _, c := range samples.Wrongs() {
		all = append(all, c.Source)
	}
	for size := range 20 {
		source := samples.SomeGapped(r.IntN, g.Some(r.IntN, 4*size))
		all = append(all, source, source[:r.IntN(len(source))], told(t, 30, source), told(t, 72, source))
	}
	return all
}

// asked is what both calls tell of each source, the second one of it and the next one.
func asked(all []string) []answer {
	var l []answer
	for i, source := range all {
		l = append(l, is(30, source), same(source, all[(i+1)%len(all)]))
	}
	return l
}

// The same again: an answer hangs on nothing that was ahead of it, be that an error or not.
func TestR2TheSameAgain(t *testing.T) {
	all := sources(t)
	want := asked(all)
	for i, source := range slices.Backward(all) {
		if got := same(source, all[(i+1)%len(all)]); got != want[2*i+1] {
			t.Fatalf("%s: %s, and ahead of that %s", samples.Short(source), got, want[2*i+1])
		}
		if got := is(30, source); got != want[2*i] {
			t.Fatalf("%s: %s, and ahead of that %s", samples.Short(source), got, want[2*i])
		}
	}
}

func TestR2Goroutines(t *testing.T) {
	all := sources(t)
	want := asked(all)
	var wait sync.WaitGroup
	for range 8 {
		wait.Go(func() {
			if got := asked(all); !slices.Equal(got, want) {
				t.Errorf("%v in a goroutine, not %v", got, want)
			}
		})
	}
	wait.Wait()
}

// No goroutine is left.
func TestR2NoGoroutineIsLeft(t *testing.T) {
	before := runtime.NumGoroutine()
	asked(sources(t))
	if after := runtime.NumGoroutine(); after > before {
		t.Errorf("%d goroutines, and %d ahead of that", after, before)
	}
}

// A Fault is another one each time: what is written into it is seen in no other.
func TestR2AFaultIsAnotherOneEachTime(t *testing.T) {
	calls := []func() error{func() error { _, err := check.Is(0, formed); return err }}
	for _, c := range samples.Wrongs() {
		calls = append(calls,
			func() error { _, err := check.Is(72, c.Source); return err },
			func() error { _, err := check.Same(c.Source, formed); return err },
			func() error { _, err := check.Same(formed, c.Source); return err },
		)
	}
	for _, call := range calls {
		first, second := call(), call()
		want := samples.FaultWord(second)
		f, ok := first.(*api.Fault)
		if !ok || first == second {
			t.Fatalf("%v and %v", first, second)
		}
		*f = api.Fault{Code: 99, Place: api.Place{At: 98, Line: 97, Column: 96}}
		if samples.FaultWord(second) != want || samples.FaultWord(call()) != want {
			t.Fatalf("%s: another Fault changed", want)
		}
	}
}

// asksOwn asks of two sources that no one else has, and where these stand.
func asksOwn(a, b string) (errs [2]error, own [2]weak.Pointer[byte]) {
	a, b = strings.Clone(a+" "), strings.Clone(b+" ")
	_, errs[0] = check.Is(72, a)
	_, errs[1] = check.Same(a, b)
	return errs, [...]weak.Pointer[byte]{weak.Make(unsafe.StringData(a)), weak.Make(unsafe.StringData(b))}
}

// No source is kept, by an error neither.
func TestR2NoSourceIsKept(t *testing.T) {
	great := strings.Repeat("{great}", 200)
	for _, a := range []string{formed + great, great + formed, great + "?", great + "begin", great} {
		for _, b := range []string{formed + great, great + "?"} {
			errs, own := asksOwn(a, b)
			runtime.GC()
			if own[0].Value() != nil || own[1].Value() != nil {
				t.Errorf("%s or %s is kept", samples.Short(a), samples.Short(b))
			}
			runtime.KeepAlive(errs)
		}
	}
}

// No panic comes out, and each call ends, whatever the bytes and the widths are.
func TestR1AnyBytes(t *testing.T) {
	t.Parallel()
	r := rand.New(rand.NewPCG(18, 8))
	for range 10000 {
		b := make([]byte, r.IntN(30))
		for i := range b {
			b[i] = byte(r.IntN(256))
		}
		source := "program p;begin "[:r.IntN(17)] + string(b)
		if got := is(r.IntN(5000)-100, source); got.yes || got.wrong == "" {
			t.Fatalf("%q: %s", source, got)
		}
		if got := same(source, formed); got.yes || got.wrong == "" {
			t.Fatalf("%q: %s", source, got)
		}
		noted := formed + "//" + string(b)
		if got := same(noted, noted); !got.yes && got.wrong == "" {
			t.Fatalf("%q: %s", noted, got)
		}
	}
}
