package tally

import (
	"math"
	"sync"
	"sync/atomic"
	"testing"
)

// at makes a counter with this end that stands at now.
func at(t *testing.T, most, now int64) *Tally {
	t.Helper()
	x := New(most)
	if got, ok := x.Add(now); got != now || !ok {
		t.Fatalf("New(%d).Add(%d) = %d, %v", most, now, got, ok)
	}
	return x
}

// P1.1: a new counter is at 0, its end is what was given, never below 0.
func TestNew(t *testing.T) {
	for _, c := range []struct{ most, want int64 }{
		{10, 10},
		{1, 1},
		{0, 0},
		{-1, 0},
		{math.MinInt64, 0},
		{math.MaxInt64, math.MaxInt64},
	} {
		x := New(c.most)
		if x == nil || x.Most() != c.want || x.Now() != 0 {
			t.Errorf("New(%d): end %d, now %d; want end %d, now 0", c.most, x.Most(), x.Now(), c.want)
		}
	}
}

// P1.1: Add counts n more, where there is room for all of it.
func TestAdd(t *testing.T) {
	const big = math.MaxInt64
	for _, c := range []struct {
		most, now, n, want int64
		ok                 bool
	}{
		{10, 0, 7, 7, true},
		{10, 7, 3, 10, true},
		{10, 7, 4, 7, false},
		{10, 10, 0, 10, true},
		{10, 10, 1, 10, false},
		{10, 4, 0, 4, true},
		{10, 4, -1, 4, false},
		{10, 4, math.MinInt64, 4, false},
		{10, 4, big, 4, false},
		{0, 0, 0, 0, true},
		{0, 0, 1, 0, false},
		{-3, 0, 0, 0, true},
		{-3, 0, 1, 0, false},
		{big, 0, big, big, true},
		{big, 1, big - 1, big, true},
		{big, 1, big, 1, false},
		{big, big, 0, big, true},
		{big, big, 1, big, false},
		{big, big, big, big, false},
		{big - 1, big - 2, 1, big - 1, true},
		{big - 1, big - 2, 2, big - 2, false},
	} {
		x := at(t, c.most, c.now)
		got, ok := x.Add(c.n)
		if got != c.want || ok != c.ok || x.Now() != c.want {
			t.Errorf("end %d, at %d: Add(%d) = %d, %v, then %d; want %d, %v", c.most, c.now, c.n, got, ok, x.Now(), c.want, c.ok)
		}
		if x.Most() != max(c.most, 0) {
			t.Errorf("end %d, at %d: Add(%d) changed the end to %d", c.most, c.now, c.n, x.Most())
		}
	}
}

// P1.2: Take counts n less, where there are as many.
func TestTake(t *testing.T) {
	const big = math.MaxInt64
	for _, c := range []struct {
		most, now, n, want int64
		ok                 bool
	}{
		{10, 7, 3, 4, true},
		{10, 7, 7, 0, true},
		{10, 7, 8, 7, false},
		{10, 7, 0, 7, true},
		{10, 7, -1, 7, false},
		{10, 7, math.MinInt64, 7, false},
		{10, 7, big, 7, false},
		{10, 0, 0, 0, true},
		{10, 0, 1, 0, false},
		{0, 0, 0, 0, true},
		{0, 0, 1, 0, false},
		{big, big, big, 0, true},
		{big, big, big - 1, 1, true},
		{big, big - 1, big, big - 1, false},
	} {
		x := at(t, c.most, c.now)
		if ok := x.Take(c.n); ok != c.ok || x.Now() != c.want || x.Most() != c.most {
			t.Errorf("end %d, at %d: Take(%d) = %v, then %d; want %v, %d", c.most, c.now, c.n, ok, x.Now(), c.ok, c.want)
		}
	}
}

// P1.2: Raise only goes up, as far as the end.
func TestRaise(t *testing.T) {
	const big = math.MaxInt64
	for _, c := range []struct {
		most, now, n, want int64
		ok                 bool
	}{
		{10, 7, 9, 9, true},
		{10, 7, 8, 8, true},
		{10, 7, 10, 10, true},
		{10, 7, 11, 7, false},
		{10, 7, 7, 7, false},
		{10, 7, 6, 7, false},
		{10, 7, 0, 7, false},
		{10, 7, -1, 7, false},
		{10, 7, math.MinInt64, 7, false},
		{10, 7, big, 7, false},
		{10, 0, 0, 0, false},
		{10, 0, -1, 0, false},
		{10, 10, 10, 10, false},
		{0, 0, 0, 0, false},
		{0, 0, 1, 0, false},
		{big, 0, big, big, true},
		{big, big - 1, big, big, true},
		{big, big, big, big, false},
		{big - 1, 0, big, 0, false},
	} {
		x := at(t, c.most, c.now)
		if ok := x.Raise(c.n); ok != c.ok || x.Now() != c.want || x.Most() != c.most {
			t.Errorf("end %d, at %d: Raise(%d) = %v, then %d; want %v, %d", c.most, c.now, c.n, ok, x.Now(), c.ok, c.want)
		}
	}
}

// P1.2: Reset tells what it was; the end stays, and all its room is there again.
func TestReset(t *testing.T) {
	for _, now := range []int64{0, 1, 9, 10} {
		x := at(t, 10, now)
		if was := x.Reset(); was != now || x.Now() != 0 || x.Most() != 10 {
			t.Errorf("at %d: Reset = %d, then %d of %d", now, was, x.Now(), x.Most())
		}
		if was := x.Reset(); was != 0 {
			t.Errorf("at %d: the second Reset = %d", now, was)
		}
		if n, ok := x.Add(10); n != 10 || !ok {
			t.Errorf("at %d: behind Reset Add(10) = %d, %v", now, n, ok)
		}
	}
	if was := at(t, math.MaxInt64, math.MaxInt64).Reset(); was != math.MaxInt64 {
		t.Errorf("Reset of the greatest = %d", was)
	}
}

// P1.1, P1.2: the document's own example.
func TestExample(t *testing.T) {
	x := New(10)
	a, ok := x.Add(7)
	b, more := x.Add(4)
	took, raised, was := x.Take(8), x.Raise(9), x.Reset()
	if a != 7 || !ok || b != 7 || more || took || !raised || was != 9 {
		t.Error(a, ok, b, more, took, raised, was)
	}
}

// P1.1, P1.2: a nil tally tells zero values, even where a tally would say yes.
func TestNil(t *testing.T) {
	var x *Tally
	for _, n := range []int64{math.MinInt64, -1, 0, 1, math.MaxInt64} {
		if got, ok := x.Add(n); got != 0 || ok {
			t.Errorf("Add(%d) = %d, %v", n, got, ok)
		}
		if x.Take(n) || x.Raise(n) {
			t.Errorf("Take or Raise of %d: true", n)
		}
	}
	if x.Now() != 0 || x.Most() != 0 || x.Reset() != 0 {
		t.Error(x.Now(), x.Most(), x.Reset())
	}
}

// P1.1, P1.2: counters keep to themselves.
func TestApart(t *testing.T) {
	x, y := New(10), New(5)
	x.Add(7)
	y.Add(2)
	if x.Now() != 7 || y.Now() != 2 || x.Most() != 10 || y.Most() != 5 || x.Reset() != 7 || y.Now() != 2 {
		t.Error(x.Now(), y.Now())
	}
}

// model says by plain numbers what a counter has to answer.
type model struct{ now, most int64 }

func (m *model) call(kind int, n int64) (int64, bool) {
	was := m.now
	switch kind {
	case 0:
		if n >= 0 && n <= m.most-m.now {
			m.now += n
			return m.now, true
		}
		return m.now, false
	case 1:
		if n >= 0 && n <= m.now {
			m.now -= n
			return 0, true
		}
	case 2:
		if n > m.now && n <= m.most {
			m.now = n
			return 0, true
		}
	case 3:
		m.now = 0
		return was, false
	}
	return 0, false
}

func call(x *Tally, kind int, n int64) (int64, bool) {
	switch kind {
	case 0:
		return x.Add(n)
	case 1:
		return 0, x.Take(n)
	case 2:
		return 0, x.Raise(n)
	case 3:
		return x.Reset(), false
	}
	return 0, false
}

// P1.3: in every row of three calls it stays between 0 and its end, and answers as the model does.
func TestBounds(t *testing.T) {
	const big = math.MaxInt64
	numbers := []int64{math.MinInt64, -1, 0, 1, 2, 3, 4, big - 1, big}
	for _, most := range []int64{-1, 0, 1, 3, big - 1, big} {
		steps := 4 * len(numbers)
		for row := range steps * steps * steps {
			x, m := New(most), &model{most: max(most, 0)}
			left := row
			for range 3 {
				kind, n := left%4, numbers[left/4%len(numbers)]
				left /= steps
				got, ok := call(x, kind, n)
				want, is := m.call(kind, n)
				now := x.Now()
				if got != want || ok != is || now != m.now || now < 0 || now > x.Most() {
					t.Fatalf("end %d, row %d: call %d of %d = %d, %v, then %d; want %d, %v, %d", most, row, kind, n, got, ok, now, want, is, m.now)
				}
			}
		}
	}
}

const (
	workers = 8
	times   = 100000
)

// atOnce lets workers run side by side, and waits for all of them; none begins ahead of the others, so that they meet.
func atOnce(work func(worker int)) {
	var all, here sync.WaitGroup
	here.Add(workers)
	for i := range workers {
		all.Go(func() {
			here.Done()
			here.Wait()
			work(i)
		})
	}
	all.Wait()
}

// P1.1: no Add of many is lost, each tells a number of its own, and none goes beyond the end.
func TestManyAdd(t *testing.T) {
	const end = workers*times - 100
	x := New(end)
	told := make([]atomic.Int32, end+1)
	var refused atomic.Int64
	atOnce(func(int) {
		for range times {
			n, ok := x.Add(1)
			if n < 1 || n > end {
				t.Errorf("Add told %d", n)
				return
			}
			if ok {
				told[n].Add(1)
			} else {
				refused.Add(1)
			}
		}
	})
	if x.Now() != end || refused.Load() != 100 {
		t.Errorf("now %d, refused %d", x.Now(), refused.Load())
	}
	for n := 1; n <= end; n++ {
		if c := told[n].Load(); c != 1 {
			t.Fatalf("%d was told %d times", n, c)
		}
	}
}

// P1.2: of many that Take just as many succeed as there are.
func TestManyTake(t *testing.T) {
	const stock = workers*times - 100
	x := at(t, workers*times, stock)
	var took atomic.Int64
	atOnce(func(int) {
		for range times {
			if x.Take(1) {
				took.Add(1)
			}
		}
	})
	if took.Load() != stock || x.Now() != 0 {
		t.Errorf("took %d of %d, left %d", took.Load(), stock, x.Now())
	}
}

// P1.2: of many that Raise to the same number one succeeds, and it never falls.
func TestManyRaise(t *testing.T) {
	x := New(math.MaxInt64)
	var raised atomic.Int64
	atOnce(func(int) {
		for range times {
			next := x.Now() + 1
			if x.Raise(next) {
				raised.Add(1)
			}
			if now := x.Now(); now < next {
				t.Errorf("behind Raise(%d) it is %d", next, now)
				return
			}
		}
	})
	if x.Now() != raised.Load() {
		t.Errorf("raised %d times by one, now %d", raised.Load(), x.Now())
	}
}

// P1.2: what many Resets tell, and what is left, is what was added.
func TestManyReset(t *testing.T) {
	x := New(math.MaxInt64)
	var told atomic.Int64
	atOnce(func(worker int) {
		for range times {
			if worker%2 == 0 {
				x.Add(3)
			} else {
				told.Add(x.Reset())
			}
		}
	})
	const want = workers / 2 * times * 3
	if sum := told.Load() + x.Now(); sum != want {
		t.Errorf("told and left %d of %d", sum, want)
	}
}

// P1.3: whatever many do at a time, nobody sees it below 0 or above its end, and the sum holds.
func TestManyBounds(t *testing.T) {
	const end = 5
	x := New(end)
	var sum atomic.Int64
	atOnce(func(worker int) {
		for i := range int64(times) {
			n := (i + int64(worker)) % 4
			if got, ok := x.Add(n); got < 0 || got > end {
				t.Errorf("Add told %d", got)
				return
			} else if ok {
				sum.Add(n)
			}
			if x.Take(3 - n) {
				sum.Add(n - 3)
			}
			if now := x.Now(); now < 0 || now > end {
				t.Errorf("now %d", now)
				return
			}
		}
	})
	if x.Now() != sum.Load() {
		t.Errorf("now %d, the sum is %d", x.Now(), sum.Load())
	}
}
