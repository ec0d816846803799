package driver_test

import (
	"math/rand/v2"
	"runtime"
	"strings"
	"sync"
	"testing"
	"unsafe"
	"weak"

	"colophon/api"
	"colophon/driver"
	"colophon/grammar"
	"colophon/samples"
)

// sources are programs, formatted and not, and such as are none.
func sources() []string {
	g := grammar.New()
	r := rand.New(rand.NewPCG(17, 7))
	all := []string{"", ";", "?", "program p;begin '' end", head, everything}
	for size := range 40 {
		source := samples.SomeGapped(r.IntN, g.Some(r.IntN, 4*size))
		all = append(all, source, source[:r.IntN(len(source))], formatted(40, source).text)
	}
	return all
}

// Drivers that are given chunks in turns know nothing of one another.
func TestR2DriversSideBySide(t *testing.T) {
	all := sources()
	for _, size := range []int{1, 7, 100} {
		var drivers []*driver.Driver
		told := make([]answer, len(all))
		most := 0
		for i, source := range all {
			drivers = append(drivers, made(t, api.Options{Width: 40, Check: i%5 == 4}))
			most = max(most, len(source))
		}
		step := func(i int, got answer) {
			if told[i].wrong == "" {
				told[i] = answer{told[i].text + got.text, got.same, got.wrong}
			}
		}
		for at := 0; at < most; at += size {
			for i, source := range all {
				step(i, fed(drivers[i], source[min(at, len(source)):min(at+size, len(source))]))
			}
		}
		for i, source := range all {
			step(i, closed(drivers[i]))
			if want := together(t, api.Options{Width: 40, Check: i%5 == 4}, source); told[i] != want {
				t.Fatalf("%s in turns by %d: %s, not %s", samples.Short(source), size, told[i], want)
			}
		}
	}
}

func TestR2DriversInGoroutines(t *testing.T) {
	all := sources()
	var want []answer
	for _, source := range all {
		want = append(want, together(t, api.Options{Width: 40}, source))
	}
	var wait sync.WaitGroup
	for size := 1; size <= 8; size++ {
		wait.Go(func() {
			for i, source := range all {
				if got := together(t, api.Options{Width: 40}, byBytes(source, size)...); got != want[i] {
					t.Errorf("%s in a goroutine: %s, not %s", samples.Short(source), got, want[i])
					return
				}
			}
		})
	}
	wait.Wait()
}

// No goroutine is left.
func TestR2NoGoroutineIsLeft(t *testing.T) {
	before := runtime.NumGoroutine()
	for _, source := range sources() {
		together(t, api.Options{Width: 40}, byBytes(source, 5)...)
	}
	if after := runtime.NumGoroutine(); after > before {
		t.Errorf("%d goroutines, and %d ahead of that", after, before)
	}
}

// feedsOwn feeds a chunk that no one else has.
func feedsOwn(d *driver.Driver, chunk string) (string, weak.Pointer[byte]) {
	own := strings.Clone(chunk)
	text, _ := d.Feed(own)
	return text, weak.Make(unsafe.StringData(own))
}

// A chunk is not kept, and what is told shares no memory with it, be something of it held or not.
func TestR2NoChunkIsKept(t *testing.T) {
	great := strings.Repeat("{great}\n", 200)
	for _, chunk := range []string{great, great + "program", great + "{", "// " + great + "program p;//", great + "//\xe6\x97", great + "\xc3", great + "?", great + ";;", "program p;\nbegin\n  a := \"" + strings.Repeat("great", 200)} {
		for _, check := range []bool{false, true} {
			d := made(t, api.Options{Width: 72, Check: check})
			text, own := feedsOwn(d, chunk)
			runtime.GC()
			if own.Value() != nil {
				t.Errorf("%s is kept", samples.Short(chunk))
			}
			runtime.KeepAlive(text)
			runtime.KeepAlive(d)
		}
	}
}

// heap is how many bytes are in use.
func heap() int {
	runtime.GC()
	runtime.GC()
	var m runtime.MemStats
	runtime.ReadMemStats(&m)
	return int(m.HeapAlloc)
}

// What is kept does not grow with what has come: it is what has not been written, be the source formatted or not, told or
// checked, in great chunks or small ones.
func TestR2NothingGrows(t *testing.T) {
	const line = "  a := f(b, \"\u65e5\xff\") + c; // note\n"
	lines := strings.Repeat(line, 10000)
	for _, c := range []struct {
		first string
		size  int
	}{{"program p;\nbegin\n", 1 << 18}, {"program p;\nbegin\n", 1000}, {"program p;begin ", 1 << 18}, {"program p;begin ", 100}} {
		for _, check := range []bool{false, true} {
			d := made(t, api.Options{Width: 72, Check: check})
			before := heap()
			for _, s := range byBytes(c.first+lines, c.size) {
				if got := fed(d, s); got.wrong != "" {
					t.Fatal(got)
				}
			}
			if after := heap(); after > before+50000 {
				t.Errorf("%q by %d: %d bytes more are kept", c.first, c.size, after-before)
			}
			if got := fed(d, "  skip\nend.\n"); got.wrong != "" {
				t.Error(got)
			}
			if got, want := closed(d), strings.Contains(c.first, "\n"); got.wrong != "" || got.same != want {
				t.Errorf("%q by %d: %s", c.first, c.size, got)
			}
		}
	}
	runtime.KeepAlive(lines)
}

// What is broken or closed keeps nothing of its source.
func TestR2NothingIsKeptBehindTheEnd(t *testing.T) {
	great := "program p; {" + strings.Repeat("great", 10000) + "}\nbegin\n  a := {" + strings.Repeat("great", 10000) + "} (b"
	for _, rest := range []string{"?", ";;", "", ")\nend."} {
		before := heap()
		var all []*driver.Driver
		for range 20 {
			d := made(t, api.Options{Width: 72, Check: true})
			fed(d, great+rest)
			closed(d)
			all = append(all, d)
		}
		if after := heap(); after > before+100000 {
			t.Errorf("%q: %d bytes are kept", rest, after-before)
		}
		runtime.KeepAlive(all)
	}
}

// A driver takes more than format does, in as many chunks as there are bytes.
func TestR1GreatSources(t *testing.T) {
	t.Parallel()
	for _, c := range []struct{ source, want string }{
		{"program p;\nbegin\n  a" + strings.Repeat(";\n  b", 50000) + "\nend.\n", "program p;\nbegin\n  a" + strings.Repeat(";\n  b", 50000) + "\nend.\n"},
		{"program p;begin skip end." + strings.Repeat("{\u65e5}\n", 60000), headTold + "\nend. {\u65e5}" + strings.Repeat("\n{\u65e5}", 59999) + "\n"},
		{"program p;begin a:=" + strings.Repeat("b+", 90000) + "b end.", ""},
		{strings.Repeat(" \n", 300000) + "program p;begin skip end.", headTold + "\nend.\n"},
		{"program p;\nbegin\n  a := \"" + strings.Repeat("\u0301", 30000) + "\" + \"" + strings.Repeat("\u0301", 30000) + "\"\nend.\n", ""},
	} {
		for _, size := range []int{1, 4096, len(c.source)} {
			got := together(t, api.Options{Width: 72}, byBytes(c.source, size)...)
			if got.wrong != "" || c.want != "" && got.text != c.want || got.same != (got.text == c.source) {
				t.Errorf("%s by %d: %s", samples.Short(c.source), size, got)
			}
			if still := together(t, api.Options{Width: 72, Check: true}, byBytes(c.source, size)...); still != got.quiet() {
				t.Errorf("%s by %d, with Check: %s", samples.Short(c.source), size, still)
			}
		}
	}
}

// T1 holds up to the longest source that format takes; one that is longer is driven all the same.
func TestP17_5AsLongAsMayBe(t *testing.T) {
	t.Parallel()
	r := rand.New(rand.NewPCG(17, 8))
	source := head + "end." + strings.Repeat(" ", api.MaxText-len(head)-4)
	if got := comesTogether(t, r, 72, source); got != told(headTold+"\nend.\n") {
		t.Error(got)
	}
	if got := comesTogether(t, r, 72, source[:api.MaxText-1]+"?"); got.wrong != "ErrScanByte at 262143 1:262144" {
		t.Error(got)
	}
	if got := formatted(72, source+" "); got.wrong != "error 2 at 0 0:0" {
		t.Error(got)
	}
	if got := together(t, api.Options{Width: 72}, source+" "); got != told(headTold+"\nend.\n") {
		t.Error(got)
	}
}

// No panic comes out, and each call ends, whatever the bytes are.
func TestR1AnyBytes(t *testing.T) {
	t.Parallel()
	r := rand.New(rand.NewPCG(17, 9))
	for range 5000 {
		b := make([]byte, r.IntN(30))
		for i := range b {
			b[i] = byte(r.IntN(256))
		}
		comesTogether(t, r, 1+r.IntN(80), "program p;begin "[:r.IntN(17)]+string(b))
		comesTogether(t, r, 1+r.IntN(80), "program p;begin{"+strings.NewReplacer("}", "").Replace(string(b))+"}skip end.//"+string(b))
	}
}
