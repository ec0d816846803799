package ring_test

import (
	"math/rand/v2"
	"runtime"
	"strconv"
	"testing"
	"weak"

	"colophon/api"
	"colophon/ring"
	"colophon/samples"
)

// testScripts holds rings against lists at all scripts of so many steps at most. As the beginnings of a script are
// scripts too, what they hold need be looked at behind the last step alone.
func testScripts(t *testing.T, room int, steps []string, most int) {
	t.Helper()
	for script := range samples.Texts(steps, most) {
		p := newPair[int](t, room)
		for k := range len(script) {
			if s := p.step(script[k], k+1); s != "" {
				t.Fatalf("room %d, script %s: %s", room, script, s)
			}
		}
		p.same(t, "script "+script)
	}
}

func TestP5_5AllShortScripts(t *testing.T) {
	for room := 1; room <= 5; room++ {
		testScripts(t, room, steps, 6)
	}
}

// Of pushes and pops alone scripts may be longer: long enough for rings that are widened with their row gone round.
func TestP5_5AllScriptsOfPushesAndPops(t *testing.T) {
	for _, room := range []int{1, 2, 3, 4, 6, 9} {
		testScripts(t, room, []string{"p", "f", "b"}, 9)
	}
}

func TestP5_5LongScripts(t *testing.T) {
	for _, room := range []int{1, 2, 3, 7, 8, 9, 31, 100} {
		longScript(t, room, func(k int) int { return k })
		longScript(t, room, func(k int) string { return "n" + strconv.Itoa(k) })
		longScript(t, room, func(k int) thing { return thing{k, strconv.Itoa(-k), [3]int8{int8(k), 1, 2}} })
		longScript(t, room, func(k int) any { return []any{k, strconv.Itoa(k), nil}[k%3] })
	}
}

// longScript goes through times in which pushes are more than pops, and times in which they are less, so that the ring
// is full and empty again and again.
func longScript[T comparable](t *testing.T, room int, nth func(int) T) {
	t.Helper()
	p := newPair[T](t, room)
	pick := rand.New(rand.NewPCG(5, uint64(room)))
	full, empty := 0, 0
	for k := range 20000 {
		often := "ppppppppfb0mln"
		if k/(4*room+10)%2 == 1 {
			often = "ppfffffbbb0mln"
		}
		if s := p.step(often[pick.IntN(len(often))], nth(k)); s != "" {
			t.Fatalf("room %d, step %d: %s", room, k, s)
		}
		if k%97 == 0 || room < 10 {
			p.same(t, "step "+strconv.Itoa(k))
		}
		switch p.list.Len() {
		case room:
			full++
		case 0:
			empty++
		}
	}
	if full < 20 || empty < 20 {
		t.Errorf("room %d: only %d times full, %d times empty", room, full, empty)
	}
}

// What goes in comes out in its order, however many there are and however often it has gone round.
func TestP5_5Order(t *testing.T) {
	for room := 1; room <= 40; room++ {
		for n := 1; n <= room; n++ {
			r := made[int](t, room)
			in, out := 0, 0
			for out < 30*room {
				for in-out < n {
					if e := r.PushBack(in); e != api.OK {
						t.Fatalf("room %d, with %d of them: PushBack(%d): %d", room, in-out, in, e)
					}
					in++
				}
				if x, e := r.PopFront(); x != out || e != api.OK {
					t.Fatalf("room %d, with %d of them: PopFront() = %d, %d, not %d", room, in-out, x, e, out)
				}
				out++
			}
		}
	}
}

// Where the row begins is seen by nobody: rings that hold the same answer alike, whatever happened ahead.
func TestP5_5WhereItBegan(t *testing.T) {
	for room := 1; room <= 8; room++ {
		for on := range 3 * room {
			p := pair[int]{made[int](t, room), made[int](t, room)}
			for k := range on {
				p.ring.PushBack(-k)
				p.ring.PopFront()
			}
			for k, what := range "ppbpplfpppp0fmppbbfffpp" {
				if s := p.step(byte(what), k); s != "" {
					t.Fatalf("room %d, moved on by %d: %s", room, on, s)
				}
				p.same(t, "moved on by "+strconv.Itoa(on))
			}
		}
	}
}

func TestP5_5RingsSideBySide(t *testing.T) {
	const script = "pppf0pblpmfnpfbbpppfffpppmbfp"
	a, b := newPair[int](t, 3), newPair[int](t, 3)
	c := newPair[string](t, 4)
	for k := range 10 * len(script) {
		for _, s := range []string{
			a.step(script[k%len(script)], k),
			b.step(script[k*7%len(script)], -k),
			c.step(script[k*3%len(script)], strconv.Itoa(k)),
		} {
			if s != "" {
				t.Fatalf("round %d: %s", k, s)
			}
		}
		a.same(t, "the first one")
		b.same(t, "the second one")
		c.same(t, "the third one")
	}
}

func TestP5_5NewMakesAnotherOne(t *testing.T) {
	r, s := made[int](t, 2), made[int](t, 2)
	r.PushBack(1)
	r.PushBack(2)
	if r == s || s.Len() != 0 || s.PushBack(3) != api.OK {
		t.Errorf("the second ring has %d, when two were pushed into the first", s.Len())
	}
	if x, e := r.At(0); x != 1 || e != api.OK {
		t.Errorf("the first ring: At(0) = %d, %d", x, e)
	}
}

// great is a thing that has memory of its own.
type great struct{ cells [64]int }

// pushGreat pushes a new one. Only the ring holds it then.
func pushGreat(r *ring.Ring[*great]) weak.Pointer[great] {
	x := &great{}
	r.PushBack(x)
	return weak.Make(x)
}

// What is there no more is not kept: neither what was taken away, nor what another one stands in the place of.
func TestP5_5NothingIsKept(t *testing.T) {
	for _, c := range []struct {
		name string
		do   func(r *ring.Ring[*great])
		gone []bool
	}{
		{"nothing", func(r *ring.Ring[*great]) {}, []bool{false, false, false}},
		{"PopFront", func(r *ring.Ring[*great]) { r.PopFront() }, []bool{true, false, false}},
		{"PopBack", func(r *ring.Ring[*great]) { r.PopBack() }, []bool{false, false, true}},
		{"Set", func(r *ring.Ring[*great]) { r.Set(1, nil) }, []bool{false, true, false}},
		{"both pops", func(r *ring.Ring[*great]) { r.PopBack(); r.PopFront() }, []bool{true, false, true}},
		{"PopFront, and more than there were", func(r *ring.Ring[*great]) {
			r.PopFront()
			for range 4 {
				r.PushBack(nil)
			}
		}, []bool{true, false, false}},
	} {
		r := made[*great](t, 6)
		held := []weak.Pointer[great]{pushGreat(r), pushGreat(r), pushGreat(r)}
		c.do(r)
		runtime.GC()
		for i, p := range held {
			if gone := p.Value() == nil; gone != c.gone[i] {
				t.Errorf("behind %s: thing %d is gone: %t, not %t", c.name, i, gone, c.gone[i])
			}
		}
		runtime.KeepAlive(r)
	}
}
