package stream

import (
	"colophon/api"
	"colophon/ring"
)

// part is how many things a ring of a row has room for: so many that a row of rings has room for all that there may be.
const part = 1024

// row is a ring without a bound: rings, one behind the other. Those that are emptied are not kept, lest a row that was long
// once take so much memory for ever.
type row[T any] struct {
	rings *ring.Ring[*ring.Ring[T]] // none of them is empty
	count int
}

func newRow[T any]() row[T] {
	rings, _ := ring.New[*ring.Ring[T]](api.MaxRing)
	return row[T]{rings: rings}
}

// push makes x the last one.
func (r *row[T]) push(x T) {
	back := r.back()
	if back.PushBack(x) != api.OK { // it is full, or there is none
		back, _ = ring.New[T](part)
		back.PushBack(x)
		r.rings.PushBack(back)
	}
	r.count++
}

// first is the first one, if there is any.
func (r *row[T]) first() (T, bool) {
	x, e := r.front().At(0)
	return x, e == api.OK
}

// last is the last one, if there is any.
func (r *row[T]) last() (T, bool) {
	back := r.back()
	x, e := back.At(back.Len() - 1)
	return x, e == api.OK
}

// popFront takes the first one away.
func (r *row[T]) popFront() {
	front := r.front()
	if _, e := front.PopFront(); e != api.OK {
		return
	}
	if front.Len() == 0 {
		r.rings.PopFront()
	}
	r.count--
}

// popBack takes the last one away.
func (r *row[T]) popBack() {
	back := r.back()
	if _, e := back.PopBack(); e != api.OK {
		return
	}
	if back.Len() == 0 {
		r.rings.PopBack()
	}
	r.count--
}

// front is the first ring; nil, if there is none.
func (r *row[T]) front() *ring.Ring[T] {
	x, _ := r.rings.At(0)
	return x
}

// back is the last ring; nil, if there is none.
func (r *row[T]) back() *ring.Ring[T] {
	x, _ := r.rings.At(r.rings.Len() - 1)
	return x
}
