package stream_test

import (
	"math"
	"strings"
	"testing"

	"colophon/api"
	"colophon/samples"
	"colophon/stream"
)

func wrongText(t string) api.Doc { return api.Doc{Kind: api.Text, Text: t} }

// refused holds that a piece may not stand there, and that nothing is held more.
func refused(t *testing.T, p *stream.Printer, d api.Doc) {
	t.Helper()
	held := p.Held()
	if s, e := p.Put(d); s != "" || e != api.ErrDocForm || p.Held() != held {
		t.Fatalf("Put(%+v) = %q, %d; Held() = %d, not %d", d, s, e, p.Held(), held)
	}
}

func TestP9_1Widths(t *testing.T) {
	for _, columns := range []int{math.MinInt, -4096, -1, 0, 4097, 1 << 31, 1<<32 + 1, math.MaxInt} {
		if p, e := stream.New(columns); p != nil || e != api.ErrArg {
			t.Errorf("New(%d) = %v, %d", columns, p, e)
		}
	}
	says(t, 1, "a:a:0 B0::1 b:|b:0 B1:|:0")
	says(t, 2, "a:a:0 B0::1 b::2 B1:b|:0")
	long := strings.Repeat("b", 4094)
	says(t, 4095, "a:a:0 B0::1 "+long+"::2 B0:"+long+":1 c:|c:0")
	says(t, 4096, "a:a:0 B0::1 "+long+"::2 B0:"+long+":1 c::2 B1:c|:0")
}

func TestP9_1NewMakesAnotherOne(t *testing.T) {
	a, b := made(t, 10), made(t, 10)
	if a == b {
		t.Fatal("New gave the same printer twice")
	}
	goesOn(t, a, "[2::1 a::2")
	goesOn(t, b, ".::0")
	goesOn(t, a, "]:a:0 .::0")
}

func TestR2NilPrinters(t *testing.T) {
	var p *stream.Printer
	for _, d := range append(samples.WrongPieces(), of("a S B1 H E [2 [e2 ] {|}")...) {
		if s, e := p.Put(d); s != "" || e != api.ErrNil {
			t.Errorf("Put(%+v) = %q, %d", d, s, e)
		}
	}
	for range 2 {
		if s, e := p.Close(); s != "" || e != api.ErrNil {
			t.Errorf("Close() = %q, %d", s, e)
		}
	}
	if p.Held() != 0 {
		t.Errorf("Held() = %d", p.Held())
	}
}

func TestP9_2NothingBehindClose(t *testing.T) {
	for _, words := range []string{"", "a", "a B1 b", "a H", "[2 a B1 b ]", "S", "a B1"} {
		p := made(t, 10)
		putAll(t, p, of(words))
		closed(t, p)
		for _, d := range append(samples.WrongPieces(), of("a S B1 H E [2 [e2 ] {|}")...) {
			if s, e := p.Put(d); s != "" || e != api.ErrDone || p.Held() != 0 {
				t.Fatalf("%q: Put(%+v) = %q, %d; Held() = %d", words, d, s, e, p.Held())
			}
			if s, e := p.Close(); s != "" || e != api.ErrDone || p.Held() != 0 {
				t.Fatalf("%q: Close() = %q, %d; Held() = %d", words, s, e, p.Held())
			}
		}
	}
}

func TestP9_2PiecesThatAreNotRight(t *testing.T) {
	for _, d := range samples.WrongPieces() {
		for _, words := range []string{"", "a", "[2", "[e2 a B1", "a B1 b", "a H", "[2 ]", "[2 a H b B1"} {
			p := made(t, 80)
			putAll(t, p, of(words))
			refused(t, p, d)
		}
	}
}

func TestP9_2EndsWithoutABegin(t *testing.T) {
	end := samples.Piece("]")
	for _, words := range []string{"", "a", "[2 ]", "a H", "a B1", "a B1 b", "[2 a ] B1 c", "[e1 [2 ] ]", "[2 H ]", "a B1 [2 ]", "[2 ] [2 ]"} {
		for _, columns := range []int{1, 3, 4096} {
			p := made(t, columns)
			s := putAll(t, p, of(words))
			refused(t, p, end)
			refused(t, p, end)
			if s += closed(t, p); s != printed(t, columns, of(words)) {
				t.Errorf("%q: %q", words, s)
			}
		}
	}
}

func TestP9_2PiecesAtTheirLimits(t *testing.T) {
	great := strings.Repeat("a", 65535)
	says(t, 4096, great+":"+great+":0 B1000:|:0 [1000::1 H::0 b:b:0 ]::0 .::0")
	says(t, 1, "[1000::1 a::2 H:a|:0 b:"+strings.Repeat("_", 1000)+"b:0 ]::0")
	says(t, 4096, "a:a:0 B1000::1 b::2 .:"+strings.Repeat("_", 1000)+"b:0")
	says(t, 1001, "a:a:0 B1000::1 b:|b:0 .::0")
	says(t, 1000, "a:a:0 B1000:|:0 b:b:0 .::0")
}

// What is refused changes nothing: with it between all pieces the answers are as they are without it.
func TestR1WhatIsRefusedChangesNothing(t *testing.T) {
	wrong := samples.WrongPieces()
	met := 0
	for l := range samples.Layouts("a bb S B1 H E [1 [e2 ] {|}", 5) {
		for _, columns := range []int{1, 3, 4} {
			p, q := made(t, columns), made(t, columns)
			open := 0
			for i, d := range l {
				switch d.Kind {
				case api.Begin:
					open++
				case api.End:
					open--
				}
				s, u := put(t, p, d), put(t, q, d)
				met++
				refused(t, q, wrong[met%len(wrong)])
				if open == 0 {
					refused(t, q, samples.Piece("]"))
				} else if s, e := q.Close(); s != "" || e != api.ErrDocForm {
					t.Fatalf("%s: Close behind piece %d: %q, %d", samples.Words(l), i, s, e)
				}
				if s != u || p.Held() != q.Held() {
					t.Fatalf("width %d, %s, piece %d: %q, Held() = %d, not %q, %d", columns, samples.Words(l), i, u, q.Held(), s, p.Held())
				}
			}
			if s, u := closed(t, p), closed(t, q); s != u {
				t.Fatalf("width %d, %s: Close: %q, not %q", columns, samples.Words(l), u, s)
			}
		}
	}
	if met < 100000 {
		t.Errorf("only %d pieces", met)
	}
}

func TestP9_3ABeginThatIsNotEnded(t *testing.T) {
	says(t, 10, "[2::1 .:!70:1 ]::0 .::0 .:!4:0")
	says(t, 10, "[2::1 a::2 .:!70:2 .:!70:2 B1::3 .:!70:3 ]:a:0 .::0")
	says(t, 10, "a:a:0 B1::1 [2::2 b::3 .:!70:3 ]::4 .:_b:0")
	says(t, 10, "[2::1 [e2::2 a::3 ]::4 .:!70:4 ]:a:0 .::0")
	says(t, 10, "[2::1 H::0 .:!70:0 a:a:0 .:!70:0 ]::0 a:a:0 .::0")
	says(t, 3, "[2::1 a::2 B1::3 bb:a|__bb:0 .:!70:0 B1:|:0 .:!70:0 ]::0 .::0")
	says(t, 10, "[2::1 ]::0 [2::1 .:!70:1 ]::0 .::0")
}

// A printer that New did not make is none that calls gave: no call may panic on it all the same.
func TestR1APrinterThatNewDidNotMake(t *testing.T) {
	p := &stream.Printer{}
	for _, d := range of("a S B1 [2 B1 H ] E [e2 ]") {
		p.Put(d)
	}
	p.Close()
	p.Held()
}
