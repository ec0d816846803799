package ring_test

import (
	"fmt"
	"testing"

	"colophon/api"
	"colophon/ring"
)

// row is what a ring does; a list does the same.
type row[T any] interface {
	PushBack(x T) api.Errno
	PopFront() (T, api.Errno)
	PopBack() (T, api.Errno)
	At(i int) (T, api.Errno)
	Set(i int, x T) api.Errno
	Len() int
	Room() int
}

// list is a ring told the plain way: its things from the front to the back, copied whenever they change.
type list[T any] struct {
	room   int
	things []T
}

func (l *list[T]) PushBack(x T) api.Errno {
	if len(l.things) >= l.room {
		return api.ErrRingFull
	}
	l.things = join(l.things, []T{x})
	return api.OK
}

func (l *list[T]) PopFront() (T, api.Errno) {
	if len(l.things) == 0 {
		return *new(T), api.ErrRingEmpty
	}
	x := l.things[0]
	l.things = join(l.things[1:], nil)
	return x, api.OK
}

func (l *list[T]) PopBack() (T, api.Errno) {
	if len(l.things) == 0 {
		return *new(T), api.ErrRingEmpty
	}
	last := len(l.things) - 1
	x := l.things[last]
	l.things = join(l.things[:last], nil)
	return x, api.OK
}

func (l *list[T]) At(i int) (T, api.Errno) {
	for k, x := range l.things {
		if k == i {
			return x, api.OK
		}
	}
	return *new(T), api.ErrArg
}

func (l *list[T]) Set(i int, x T) api.Errno {
	for k := range l.things {
		if k == i {
			l.things = join(join(l.things[:i], []T{x}), l.things[i+1:])
			return api.OK
		}
	}
	return api.ErrArg
}

func (l *list[T]) Len() int  { return len(l.things) }
func (l *list[T]) Room() int { return l.room }

// join is a new slice of the things of both.
func join[T any](a, b []T) []T {
	l := make([]T, 0, len(a)+len(b))
	return append(append(l, a...), b...)
}

// made is a new ring of such a room.
func made[T any](t *testing.T, room int) *ring.Ring[T] {
	t.Helper()
	r, e := ring.New[T](room)
	if r == nil || e != api.OK {
		t.Fatalf("New(%d) = %v, %d", room, r, e)
	}
	return r
}

// answer is what a step told: a thing, if it tells one, and a number.
type answer[T any] struct {
	x T
	e api.Errno
}

// steps are what a script is made of: a push, a pop in the front or in the back, what stands first, in the middle or
// last changed, and a change that is refused.
var steps = []string{"p", "f", "b", "0", "m", "l", "n"}

// step does a script's step. What it brings is x.
func step[T any](r row[T], what byte, x T) answer[T] {
	var a answer[T]
	switch what {
	case 'p':
		a.e = r.PushBack(x)
	case 'f':
		a.x, a.e = r.PopFront()
	case 'b':
		a.x, a.e = r.PopBack()
	case '0':
		a.e = r.Set(0, x)
	case 'm':
		a.e = r.Set(r.Len()/2, x)
	case 'l':
		a.e = r.Set(r.Len()-1, x)
	case 'n':
		a.e = r.Set(r.Len(), x)
	}
	return a
}

// differ says in what two rows are not the same; empty: in nothing that a call tells.
func differ[T comparable](r, want row[T]) string {
	if r.Len() != want.Len() || r.Room() != want.Room() {
		return fmt.Sprintf("it has %d of %d, not %d of %d", r.Len(), r.Room(), want.Len(), want.Room())
	}
	for i := -2; i < want.Len()+2; i++ {
		x, e := r.At(i)
		y, f := want.At(i)
		if x != y || e != f {
			return fmt.Sprintf("At(%d) = %v, %d, not %v, %d", i, x, e, y, f)
		}
	}
	return ""
}

// pair is a ring and the list that it must be.
type pair[T comparable] struct {
	ring, list row[T]
}

func newPair[T comparable](t *testing.T, room int) pair[T] {
	t.Helper()
	return pair[T]{made[T](t, room), &list[T]{room: room}}
}

// step does a step on both, and says in what they differ in answering it.
func (p pair[T]) step(what byte, x T) string {
	if got, want := step(p.ring, what, x), step(p.list, what, x); got != want {
		return fmt.Sprintf("step %c with %v: %v, not %v", what, x, got, want)
	}
	return ""
}

// same fails the test, if the two differ.
func (p pair[T]) same(t *testing.T, when string) {
	t.Helper()
	if s := differ(p.ring, p.list); s != "" {
		t.Fatalf("room %d, %s: %s", p.list.Room(), when, s)
	}
}
