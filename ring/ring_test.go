package ring_test

import (
	"math"
	"testing"

	"colophon/api"
	"colophon/ring"
)

// thing is a struct to put into rings.
type thing struct {
	n     int
	s     string
	three [3]int8
}

func TestP5_1to4Examples(t *testing.T) {
	for _, room := range []int{0, 2097153} {
		if r, e := ring.New[int](room); r != nil || e != api.ErrArg {
			t.Errorf("New(%d) = %v, %d", room, r, e)
		}
	}
	r := made[int](t, 2)
	number := func(e api.Errno) answer[int] { return answer[int]{0, e} }
	pushed := func(x int) answer[int] { return number(r.PushBack(x)) }
	told := func(x int, e api.Errno) answer[int] { return answer[int]{x, e} }
	for i, c := range []struct{ got, want answer[int] }{
		{pushed(5), number(api.OK)},
		{pushed(6), number(api.OK)},
		{pushed(7), number(api.ErrRingFull)},
		{told(r.Len(), api.OK), told(2, api.OK)},
		{told(r.PopFront()), told(5, api.OK)},
		{pushed(8), number(api.OK)},
		{told(r.At(0)), told(6, api.OK)},
		{told(r.At(1)), told(8, api.OK)},
		{told(r.At(2)), number(api.ErrArg)},
		{told(r.At(-1)), number(api.ErrArg)},
		{number(r.Set(1, 9)), number(api.OK)},
		{told(r.PopBack()), told(9, api.OK)},
		{told(r.PopBack()), told(6, api.OK)},
		{told(r.PopBack()), number(api.ErrRingEmpty)},
		{told(r.PopFront()), number(api.ErrRingEmpty)},
	} {
		if c.got != c.want {
			t.Errorf("call %d of the examples: %v, not %v", i+1, c.got, c.want)
		}
	}
}

func TestP5_1NewRefused(t *testing.T) {
	for _, room := range []int{0, -1, -2, -2097152, math.MinInt32, math.MinInt, 2097153, 4194304, math.MaxInt32, 1 << 32, 1<<32 + 1, math.MaxInt} {
		if r, e := ring.New[int](room); r != nil || e != api.ErrArg {
			t.Errorf("New[int](%d) = %v, %d", room, r, e)
		}
		if r, e := ring.New[thing](room); r != nil || e != api.ErrArg {
			t.Errorf("New[thing](%d) = %v, %d", room, r, e)
		}
	}
}

func TestP5_1NewIsWithoutThings(t *testing.T) {
	for _, room := range []int{1, 2, 3, 1000, 2097151, 2097152} {
		r := made[string](t, room)
		if s := differ[string](r, &list[string]{room: room}); s != "" {
			t.Errorf("New(%d): %s", room, s)
		}
		if x, e := r.PopFront(); x != "" || e != api.ErrRingEmpty {
			t.Errorf("New(%d), PopFront() = %q, %d", room, x, e)
		}
		if x, e := r.PopBack(); x != "" || e != api.ErrRingEmpty {
			t.Errorf("New(%d), PopBack() = %q, %d", room, x, e)
		}
	}
}

// A wide room of great things is more than a machine has: a ring may take memory only for what is in it.
func TestP5_1NewOfGreatThings(t *testing.T) {
	r := made[[1 << 20]byte](t, 2097152)
	var x [1 << 20]byte
	x[1<<20-1] = 7
	if e := r.PushBack(x); e != api.OK || r.Len() != 1 || r.Room() != 2097152 {
		t.Fatalf("PushBack: %d; Len() = %d, Room() = %d", e, r.Len(), r.Room())
	}
	if y, e := r.PopBack(); y != x || e != api.OK {
		t.Errorf("PopBack: %d, or another thing", e)
	}
}

func TestP5_2PushBackIntoAFullRing(t *testing.T) {
	for room := 1; room <= 20; room++ {
		p := newPair[int](t, room)
		for x := 1; x <= room; x++ {
			if e := p.ring.PushBack(x); e != api.OK {
				t.Fatalf("room %d, PushBack(%d): %d", room, x, e)
			}
			p.list.PushBack(x)
			p.same(t, "not yet full")
		}
		for range 3 {
			if e := p.ring.PushBack(-1); e != api.ErrRingFull {
				t.Fatalf("room %d, full, PushBack: %d", room, e)
			}
			p.same(t, "behind a push that was refused")
		}
		if x, e := p.ring.PopFront(); x != 1 || e != api.OK || p.ring.PushBack(room+1) != api.OK || p.ring.PushBack(-1) != api.ErrRingFull {
			t.Fatalf("room %d: PopFront() = %d, %d, or what is pushed then", room, x, e)
		}
	}
}

func TestP5_2PopsOfAnEmptyRing(t *testing.T) {
	for room := 1; room <= 20; room++ {
		p := newPair[string](t, room)
		for round := range 3 * room {
			for _, what := range "fbbf" {
				if a := step(p.ring, byte(what), ""); a != (answer[string]{"", api.ErrRingEmpty}) {
					t.Fatalf("room %d, round %d, empty: %c: %v", room, round, what, a)
				}
				p.same(t, "behind a pop that was refused")
			}
			for range round%room + 1 {
				p.ring.PushBack("x")
			}
			for range round%room + 1 {
				if a := step(p.ring, "fb"[round%2], ""); a != (answer[string]{"x", api.OK}) {
					t.Fatalf("room %d, round %d: %v", room, round, a)
				}
			}
		}
	}
}

func TestP5_2FrontAndBack(t *testing.T) {
	r := made[int](t, 5)
	for x := 1; x <= 5; x++ {
		r.PushBack(x)
	}
	for i, want := range []int{5, 1, 4, 2, 3} {
		if a := step(row[int](r), "bf"[i%2], 0); a != (answer[int]{want, api.OK}) || r.Len() != 4-i {
			t.Errorf("pop %d: %v, with %d left, not %d", i, a, r.Len(), want)
		}
	}
}

// The greatest room is filled, told throughout, gone round in, and emptied.
func TestP5_2TheGreatestRoom(t *testing.T) {
	const room, on = 2097152, 777777
	r := made[int32](t, room)
	for x := range int32(room) {
		if e := r.PushBack(x); e != api.OK || r.Len() != int(x)+1 {
			t.Fatalf("PushBack(%d): %d; Len() = %d", x, e, r.Len())
		}
	}
	if e := r.PushBack(-1); e != api.ErrRingFull {
		t.Fatalf("full, PushBack: %d", e)
	}
	for x := range int32(on) {
		if y, e := r.PopFront(); y != x || e != api.OK || r.PushBack(room+x) != api.OK {
			t.Fatalf("PopFront() = %d, %d, not %d", y, e, x)
		}
	}
	for i := range room {
		if x, e := r.At(i); x != int32(on+i) || e != api.OK {
			t.Fatalf("At(%d) = %d, %d", i, x, e)
		}
	}
	if x, e := r.At(room); x != 0 || e != api.ErrArg || r.Len() != room {
		t.Fatalf("At(%d) = %d, %d; Len() = %d", room, x, e, r.Len())
	}
	for i := range room {
		if x, e := r.PopBack(); x != int32(on+room-1-i) || e != api.OK {
			t.Fatalf("PopBack() = %d, %d, %d ahead of it", x, e, i)
		}
	}
	if x, e := r.PopBack(); x != 0 || e != api.ErrRingEmpty {
		t.Errorf("PopBack() = %d, %d", x, e)
	}
}

// At and Set at every number that matters, with the row anywhere in its room.
func TestP5_3Bounds(t *testing.T) {
	for room := 1; room <= 6; room++ {
		for on := range 2*room + 1 {
			for n := range room + 1 {
				testBounds(t, room, on, n)
			}
		}
	}
}

// testBounds looks at a ring of n things, in which as many were pushed and popped as on says.
func testBounds(t *testing.T, room, on, n int) {
	t.Helper()
	p := newPair[thing](t, room)
	for range on {
		p.ring.PushBack(thing{n: -1, s: "gone"})
		p.ring.PopFront()
	}
	for k := range n {
		p.step('p', thing{k, "is", [3]int8{1}})
	}
	p.same(t, "filled")
	for _, i := range []int{math.MinInt, -room - 1, -room, -n, -1, n, n + 1, room, room + 1, 1 << 32, math.MaxInt - on, math.MaxInt} {
		if i >= 0 && i < n {
			continue
		}
		if x, e := p.ring.At(i); x != (thing{}) || e != api.ErrArg {
			t.Fatalf("%d of %d, At(%d) = %v, %d", n, room, i, x, e)
		}
		if e := p.ring.Set(i, thing{n: 99}); e != api.ErrArg {
			t.Fatalf("%d of %d, Set(%d): %d", n, room, i, e)
		}
		p.same(t, "behind a Set that was refused")
	}
	for i := range n {
		x := thing{100 + i, "new", [3]int8{0, 1}}
		if e := p.ring.Set(i, x); e != api.OK {
			t.Fatalf("%d of %d, Set(%d): %d", n, room, i, e)
		}
		p.list.Set(i, x)
		p.same(t, "behind Set")
	}
}

// What At tells is a thing by itself: to change it changes nothing in the ring.
func TestP5_3AtTellsAValue(t *testing.T) {
	r := made[thing](t, 2)
	x := thing{1, "a", [3]int8{1, 2, 3}}
	r.PushBack(x)
	x.n, x.three[0] = 9, 9
	y, _ := r.At(0)
	y.s, y.three[1] = "z", 9
	if z, e := r.At(0); z != (thing{1, "a", [3]int8{1, 2, 3}}) || e != api.OK {
		t.Errorf("At(0) = %v, %d", z, e)
	}
}

func TestP5_4LenAndRoom(t *testing.T) {
	for _, room := range []int{1, 2, 3, 7, 8, 9, 2097152} {
		r := made[int](t, room)
		most := min(room, 10)
		for round := range 5 {
			for n := range most {
				if r.Len() != n || r.Room() != room {
					t.Fatalf("round %d: Len() = %d, Room() = %d, not %d, %d", round, r.Len(), r.Room(), n, room)
				}
				r.PushBack(n)
			}
			for n := most; n > 0; n-- {
				if r.Len() != n || r.Room() != room {
					t.Fatalf("round %d: Len() = %d, Room() = %d, not %d, %d", round, r.Len(), r.Room(), n, room)
				}
				step(row[int](r), "fb"[n%2], 0)
			}
		}
	}
}

func TestR2NilRings(t *testing.T) {
	testNil(t, 5)
	testNil(t, "x")
	testNil(t, thing{n: 1})
	testNil(t, &thing{n: 1})
	testNil[any](t, 1)
}

func testNil[T comparable](t *testing.T, x T) {
	t.Helper()
	var r *ring.Ring[T]
	var none T
	if e := r.PushBack(x); e != api.ErrNil {
		t.Errorf("PushBack: %d", e)
	}
	if y, e := r.PopFront(); y != none || e != api.ErrNil {
		t.Errorf("PopFront: %v, %d", y, e)
	}
	if y, e := r.PopBack(); y != none || e != api.ErrNil {
		t.Errorf("PopBack: %v, %d", y, e)
	}
	for _, i := range []int{math.MinInt, -1, 0, 1, math.MaxInt} {
		if y, e := r.At(i); y != none || e != api.ErrNil {
			t.Errorf("At(%d): %v, %d", i, y, e)
		}
		if e := r.Set(i, x); e != api.ErrNil {
			t.Errorf("Set(%d): %d", i, e)
		}
	}
	if r.Len() != 0 || r.Room() != 0 {
		t.Errorf("Len: %d; Room: %d", r.Len(), r.Room())
	}
}

// A ring that New did not make has no room: no call may panic on it.
func TestR1ARingThatNewDidNotMake(t *testing.T) {
	r := &ring.Ring[int]{}
	if s := differ[int](r, &list[int]{}); s != "" {
		t.Error(s)
	}
	for _, what := range steps {
		want := step(row[int](&list[int]{}), what[0], 1)
		if a := step(row[int](r), what[0], 1); a != want {
			t.Errorf("step %s: %v, not %v", what, a, want)
		}
	}
}
