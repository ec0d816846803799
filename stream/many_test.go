package stream_test

import (
	"runtime"
	"slices"
	"strings"
	"testing"

	"colophon/api"
	"colophon/samples"
)

// manyHeld holds that so many more pieces are held and nothing is told, till a piece ends what they are part of.
func manyHeld(t *testing.T, ahead, many string, times int, end, want string) {
	t.Helper()
	p := made(t, 10)
	putAll(t, p, of(ahead))
	held := p.Held()
	pieces := of(many)
	for k := range times {
		if s := putAll(t, p, pieces); s != "" {
			t.Fatalf("%s: the %d. %s tells %q", ahead, k, many, s)
		}
		if held += len(pieces); p.Held() != held {
			t.Fatalf("%s: behind the %d. %s Held() = %d, not %d", ahead, k, many, p.Held(), held)
		}
	}
	if s := putAll(t, p, of(end)); s != want || p.Held() != 0 {
		t.Errorf("%s, %d times %s, %s: %s, not %s; Held() = %d", ahead, times, many, end, samples.Short(s), samples.Short(want), p.Held())
	}
}

// Pieces of no width may all be held, more of them than a ring has room for.
func TestP9_2PiecesOfNoWidth(t *testing.T) {
	for _, times := range []int{1, 1023, 1024, 1025, 5000} {
		manyHeld(t, "a B1", "\u0301", times, "H", " "+strings.Repeat("\u0301", times)+"\n")
		manyHeld(t, "a B1", "[1 ]", times, "B0 H", "\n")
		manyHeld(t, "a B1", "[e1 B0 ]", times, "b H", " b\n")
		manyHeld(t, "[e2 a", "B0", times, "b ]", "ab")
		manyHeld(t, "[e2 a", "B0", times, "b H ]", "a\n  b\n")
		manyHeld(t, "[2 a", "B0 \u0301", times, "]", "a"+strings.Repeat("\u0301", times))
		manyHeld(t, "[2 a [0 b B0", "\u0301", times, "] ]", "ab"+strings.Repeat("\u0301", times))
	}
	manyHeld(t, "[e2 a B1", "[0 ]", 1<<20+1, "bbbbbbbbb ]", "a\n  bbbbbbbbb")
	manyHeld(t, "a B1", "\u0301", 1<<21+1, "b H", " "+strings.Repeat("\u0301", 1<<21+1)+"b\n")
}

func TestP9_2MorePiecesThanMaxDocs(t *testing.T) {
	const times = api.MaxDocs/6 + 1
	p := made(t, 10)
	line := of("[2 a B1 b ] H")
	for k := range times {
		if s := putAll(t, p, line); s != "a b\n" || p.Held() != 0 {
			t.Fatalf("line %d: %q, Held() = %d", k, s, p.Held())
		}
	}
	if s := closed(t, p); s != "" {
		t.Errorf("Close: %q", s)
	}
}

func TestP9_2ManyBlocksWithinOneAnother(t *testing.T) {
	for _, deep := range []int{1, 4, 1000, 1025, 65536} {
		ends := slices.Repeat(of("]"), deep)
		for _, c := range []struct {
			columns               int
			begin, middle, behind string
			want                  string
		}{
			{3, "[0", "a B1 b", "B1 c", "a b\nc"},
			{2, "[0", "a B1 b", "B1 c", "a\nb\nc"},
			{3, "[e0", "a B1 b", "B1 c", "a b\nc"},
			{2, "[e0", "a B1 b", "B1 c", "a\nb\nc"},
			{3, "[9", "a H b", "B1 c", "a\n" + strings.Repeat(" ", min(9*deep, 1000)) + "b\nc"},
		} {
			tells(t, c.columns, slices.Concat(slices.Repeat(of(c.begin), deep), of(c.middle), ends, of(c.behind)), c.want)
		}
		last := min(deep, 4)
		want := strings.Repeat("a\n", deep-last) + strings.Repeat("a", last) + "b"
		tells(t, 5, slices.Concat(slices.Repeat(of("[e0 a B0"), deep), of("b"), ends), want)
		tells(t, 5, slices.Concat(slices.Repeat(of("[0 a B0"), deep), of("b"), ends), want)
		tells(t, 5, slices.Concat(slices.Repeat(of("[e0"), deep), of("a"), slices.Repeat(of("B0 ]"), deep), of("b")), "ab")
	}
	for _, rest := range []string{
		"b::65003 ]::65004 ]::65005 S:a_b:0 c:_c:0 B1:|:0",
		"b::65003 S:a|" + strings.Repeat("_", 1000) + "b:0 ]::0 ]::0 c:_c:0",
		"H:a|:0 ]::0 b:" + strings.Repeat("_", 1000) + "b:0 ]::0 B0:|:0",
	} {
		p := made(t, 3)
		for k := range 65000 {
			if s := put(t, p, samples.Piece("[e1")); s != "" || p.Held() != k+1 {
				t.Fatalf("%d deep: %q, Held() = %d", k+1, s, p.Held())
			}
		}
		goesOn(t, p, "a::65001 B1::65002 "+rest)
	}
}

func TestP9_2IndentsOfAtMost1000(t *testing.T) {
	blanks := strings.Repeat("_", 1000)
	for _, columns := range []int{1, 10, 4096} {
		says(t, columns, "[600::1 H::0 [400::1 H::0 a:a:0 H:|:0 b:"+blanks+"b:0 ]::0 ]::0")
		says(t, columns, "[600::1 H::0 [401::1 H::0 a:a:0 H:|:0 b:"+blanks+"b:0 ]::0 ]::0")
		says(t, columns, "[600::1 H::0 [399::1 H::0 a:a:0 H:|:0 b:"+blanks[1:]+"b:0 ]::0 ]::0")
		says(t, columns, "[1000::1 H::0 [e1000::1 H::0 [1::1 H::0 a:a:0 H:|:0 E:|:0 b:"+blanks+"b:0 ]::0 ]::0 ]::0")
		// A block's indent stays its own, whatever stood within it.
		says(t, columns, "[600::1 H::0 a:a:0 [600::1 H:|:0 b:"+blanks+"b:0 ]::0 H:|:0 c:"+blanks[:600]+"c:0 ]::0 H:|:0 d:d:0")
	}
	// What is cut off of an indent is no part of the room; a column beyond the width leaves none.
	const ahead = "[600::1 H::0 [600::1 H::0 a:a:0 H:|:0 "
	says(t, 1004, ahead+"b:"+blanks+"b:0 B1::1 cc::2 ]:_cc:0 ]::0")
	says(t, 1003, ahead+"b:"+blanks+"b:0 B1::1 cc:|"+blanks+"cc:0 ]::0 ]::0")
	says(t, 1000, ahead+"[e0::1 b:"+blanks+"b:0 B1:|:0 ]::0 ]::0 ]::0")
	says(t, 999, ahead+"[e0::0 b:"+blanks+"b:0 B1:|:0 ]::0 ]::0 ]::0")
	says(t, 1001, ahead+"[e0::1 b::2 ]:"+blanks+"b:0 B0::1 c:|"+blanks+"c:0 ]::0 ]::0")
}

// Pieces that go on and on take time and memory for what is held alone.
func TestP9_4LongStreams(t *testing.T) {
	const times = 100000
	line := strings.Repeat("a ", 40)
	line = line[:79] + "\n"
	tells(t, 80, slices.Repeat(of("a B1"), times), strings.Repeat(line, times/40-1)+line[:79])
	tells(t, 80, slices.Repeat(of("a H E"), times), strings.Repeat("a\n\n", times))
	tells(t, 80, slices.Repeat(of("[e2 a B1 b ] H"), times), strings.Repeat("a b\n", times))
	tells(t, 2, slices.Repeat(of("[e2 a B1 b ] H"), times), strings.Repeat("a\n  b\n", times))
	tells(t, 1, slices.Concat(of("[2"), slices.Repeat(of("a [e2 B1 ]"), times), of("]")), strings.Repeat("a\n    ", times-1)+"a\n")
	tells(t, 80, slices.Concat(of("a B1 [e0"), slices.Repeat(of("b B1"), times), of("]")), "a\n"+strings.Repeat("b\n", times))
	tells(t, 4096, slices.Repeat(of("B1000 a"), times/10), manyLines(times/10))
	great := api.Doc{Kind: api.Text, Text: strings.Repeat("a", 65535)}
	l := slices.Concat(of("x B0 [e0"), slices.Repeat([]api.Doc{great}, 500), of("B0 b ]"))
	tells(t, 4096, l, "x\n"+strings.Repeat(great.Text, 500)+"\nb")
}

// manyLines is so many letters with 1000 blanks between, 5 in a line.
func manyLines(times int) string {
	line := strings.Repeat("a"+strings.Repeat(" ", 1000), 4) + "a\n"
	return strings.TrimSuffix(strings.Repeat(line, times/5), "\n")
}

// inUse is how many bytes of memory are held on to.
func inUse() int64 {
	var m runtime.MemStats
	runtime.GC()
	runtime.ReadMemStats(&m)
	return int64(m.HeapAlloc)
}

// What was held once takes no memory when it has been printed.
func TestR2NoMemoryForWhatIsNotHeld(t *testing.T) {
	p := made(t, 80)
	was := inUse()
	putAll(t, p, of("a B1"))
	pair := of("[1 ]")
	for range 1 << 18 {
		putAll(t, p, pair)
	}
	if n := inUse() - was; n < 1<<20 {
		t.Errorf("%d bytes are taken for what is held", n)
	}
	put(t, p, samples.Piece("H"))
	if n := inUse() - was; n > 1<<19 {
		t.Errorf("%d bytes are kept", n)
	}
	runtime.KeepAlive(p)
}

// Behind Close nothing is needed any more, however deep the blocks were.
func TestR2NoMemoryBehindClose(t *testing.T) {
	p := made(t, 80)
	was := inUse()
	putAll(t, p, slices.Repeat(of("[1"), 60000))
	putAll(t, p, of("H"))
	putAll(t, p, slices.Repeat(of("]"), 60000))
	closed(t, p)
	if n := inUse() - was; n > 1<<19 {
		t.Errorf("%d bytes are kept", n)
	}
	runtime.KeepAlive(p)
}
