package desk_test

import (
	"math/rand/v2"
	"runtime"
	"slices"
	"strings"
	"sync"
	"testing"
	"testing/synctest"
	"unsafe"
	"weak"

	"colophon/api"
	"colophon/desk"
	"colophon/samples"
)

// some are scripts that tell something, and such as are refused.
func some() []string {
	s := newScripts(5)
	var all []string
	for _, x := range examples() {
		all = append(all, x.script, x.script+"sing\n", x.script[:len(x.script)-1])
	}
	for range 30 {
		all = append(all, s.some(10))
	}
	return append(all, "", strings.Repeat("\n", 65537), of(deep(9000, 0))+"take\n", "keep\n", "same\n", "format\n")
}

// asked is what is told of each.
func asked(all []string) []answer {
	var l []answer
	for _, script := range all {
		l = append(l, run(script))
	}
	return l
}

// The same again: what is told hangs on no script that was ahead of it, be that refused or not.
func TestR2TheSameAgain(t *testing.T) {
	all := some()
	want := asked(all)
	for i, script := range slices.Backward(all) {
		if got := run(script); got != want[i] {
			t.Fatalf("%s: %v, and ahead of that %v", samples.Short(script), got, want[i])
		}
	}
}

// Desks know nothing of one another.
func TestR2Goroutines(t *testing.T) {
	all := some()
	want := asked(all)
	var wait sync.WaitGroup
	for range 8 {
		wait.Go(func() {
			if got := asked(all); !slices.Equal(got, want) {
				t.Errorf("%v in a goroutine, not %v", got, want)
			}
		})
	}
	wait.Wait()
}

// No goroutine that a batch began waits for ever: a bubble in which one did would not end well.
func TestR2NoGoroutineIsLeft(t *testing.T) {
	synctest.Test(t, func(t *testing.T) {
		for range 50 {
			told(t, of(source)+"keep\nbatch 16\nbatch 1\n"+of("?\n")+"batch 9\n")
		}
	})
}

// runsOwn runs a script that no one else has; what is told, and where that script stands.
func runsOwn(script string) (string, weak.Pointer[byte]) {
	script = strings.Clone(script)
	told, _, _ := desk.Run(script)
	return told, weak.Make(unsafe.StringData(script))
}

// A script is not kept: what is told is new memory, a line that is told as it stands, too.
func TestR2NoScriptIsKept(t *testing.T) {
	great := "{" + strings.Repeat("great ", 200) + "}\n"
	for _, script := range append(some(), of(great+formed)+"take\nformat\nkeep\nsame\nreport\n", of("?"+great)+"report\nformat\ntokens\n", "keep\n#"+great, "keep\n"+of(great), of(great)) {
		if script == "" {
			continue
		}
		told, own := runsOwn(script)
		runtime.GC()
		if own.Value() != nil {
			t.Errorf("%s is kept", samples.Short(script))
		}
		runtime.KeepAlive(told)
	}
}

// No panic comes out, and each call ends, whatever the bytes are; with an error nothing is told.
func TestR1AnyBytes(t *testing.T) {
	t.Parallel()
	r := rand.New(rand.NewPCG(22, 6))
	for range 20000 {
		b := make([]byte, r.IntN(60))
		for i := range b {
			b[i] = byte(r.IntN(256))
		}
		asPlain(t, string(b))
		asPlain(t, string(b)+"\n")
		script := of(string(b)+"\n") + "format\nreport\ntokens\nlayout\nnotes\nstrip\ndrive 3\n"
		if got := asPlain(t, script); (got.code == api.OK) != (got.told != "") {
			t.Fatal(got)
		}
	}
}
