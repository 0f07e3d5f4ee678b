package window

import (
	"clevis/api"
	"clevis/table"
)

// greatest is the greatest number that may be started from.
const greatest = 1 << 40

// In is what comes in: a thing is told when its turn comes.
type In[T any] struct{ ahead ahead[T] }

// ahead is the things that are kept, by their numbers, and the number whose
// turn it is.
type ahead[T any] struct {
	table.Table[int, T]
	next int
}

// Start makes next the next number, and keeps nothing.
func (i *In[T]) Start(next int) api.Errno {
	if i == nil {
		return api.ErrState
	}
	if next < 0 || next > greatest {
		return api.ErrArg
	}
	i.ahead = ahead[T]{next: next}
	return api.OK
}

// Offer keeps x as number n, if that is none that had its turn, none too far
// ahead, and none that is kept.
func (i *In[T]) Offer(n int, x T) api.Errno {
	if i == nil {
		return api.ErrState
	}
	if n < i.ahead.next {
		return api.ErrOrder
	}
	if n-i.ahead.next >= api.MaxWindow {
		return api.ErrFull
	}
	if _, has := i.ahead.Get(n); has {
		return api.ErrTwice
	}
	i.ahead.Put(n, x)
	return api.OK
}

// Ready tells the thing of the next number, and whether it is kept.
func (i *In[T]) Ready() (T, bool) {
	return orNone(i).ahead.Get(i.Next())
}

// Pop tells the thing of the next number, which goes, and whether it was kept.
func (i *In[T]) Pop() (T, bool) {
	x, has := i.Ready()
	if has {
		i.ahead.Drop(i.ahead.next)
		i.ahead.next++
	}
	return x, has
}

// Next tells the next number.
func (i *In[T]) Next() int {
	return orNone(i).ahead.next
}

// Kept tells the numbers of the things that are kept, rising.
func (i *In[T]) Kept() []int {
	var l []int
	for n := range orNone(i).ahead.Each() {
		l = append(l, n)
	}
	return l
}
