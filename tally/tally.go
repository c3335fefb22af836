// Package tally: counters that many may use: see ../../shared/doc/01-tally.md.
package tally

import "sync/atomic"

// Tally is a counter with an end.
type Tally struct {
	now  atomic.Int64
	most int64
}

// New makes a counter at 0; an end below 0 is 0.
func New(most int64) *Tally {
	return &Tally{most: max(most, 0)}
}

// Add counts n more, if there is room for all of them.
func (t *Tally) Add(n int64) (int64, bool) {
	if t == nil {
		return 0, false
	}
	for {
		now := t.now.Load()
		// The room is a difference of two numbers that are not below 0: it can't wrap, where now+n could.
		if n < 0 || n > t.most-now {
			return now, false
		}
		if t.now.CompareAndSwap(now, now+n) {
			return now + n, true
		}
	}
}

// Take counts n less, if there are as many.
func (t *Tally) Take(n int64) bool {
	if t == nil {
		return false
	}
	for {
		now := t.now.Load()
		if n < 0 || n > now {
			return false
		}
		if t.now.CompareAndSwap(now, now-n) {
			return true
		}
	}
}

// Raise makes it n, if that is more than it is.
func (t *Tally) Raise(n int64) bool {
	if t == nil {
		return false
	}
	for {
		now := t.now.Load()
		if n <= now || n > t.most {
			return false
		}
		if t.now.CompareAndSwap(now, n) {
			return true
		}
	}
}

// Now tells what it is.
func (t *Tally) Now() int64 {
	if t == nil {
		return 0
	}
	return t.now.Load()
}

// Reset makes it 0, and tells what it was.
func (t *Tally) Reset() int64 {
	if t == nil {
		return 0
	}
	return t.now.Swap(0)
}

// Most tells its end.
func (t *Tally) Most() int64 {
	if t == nil {
		return 0
	}
	return t.most
}
