package bucket

import (
	"math"
	"math/rand"
	"runtime"
	"sync"
	"sync/atomic"
	"testing"
)

// numbers are rates and bursts: below 0, both ends and what is beside them, above the end.
var numbers = []int{math.MinInt, -1000001, -2, -1, 0, 1, 2, 5, 999999, 1000000, 1000001, 2000000, 1<<32 + 3, math.MaxInt}

// bound is what New makes of a rate or burst, by the chapter's words.
func bound(n int) int {
	switch {
	case n < 0:
		return 0
	case n > 1000000:
		return 1000000
	}
	return n
}

// is fails the test, unless so many are left and were taken; asked twice, as asking changes nothing.
func is(t *testing.T, what string, b *Bucket, left int, taken int64) {
	t.Helper()
	for range 2 {
		if b.Left() != left || b.Taken() != taken {
			t.Fatalf("%s: %d left, %d taken; want %d, %d", what, b.Left(), b.Taken(), left, taken)
		}
	}
}

// after makes a bucket of which n were taken.
func after(t *testing.T, rate, burst, n int) *Bucket {
	t.Helper()
	b := New(rate, burst)
	for i := range n {
		if !b.Take() {
			t.Fatalf("New(%d, %d): Take %d of %d is false", rate, burst, i+1, n)
		}
	}
	return b
}

// P17.1: New of each rate with each burst: it is full, a Tick brings no more, and nothing was taken.
func TestNew(t *testing.T) {
	for _, rate := range numbers {
		for _, burst := range numbers {
			b := New(rate, burst)
			is(t, "New", b, bound(burst), 0)
			b.Tick()
			is(t, "New, Tick", b, bound(burst), 0)
			if got := b.Take(); got != (bound(burst) > 0) {
				t.Errorf("New(%d, %d): the first Take: %v", rate, burst, got)
			}
		}
	}
}

// P17.1: what a Tick brings to an empty bucket is the rate, as New bounds it, or the burst if that is less.
func TestRate(t *testing.T) {
	for _, burst := range []int{-1, 0, 1, 5, 1000, 999999, 1000000, 1000001} {
		for _, rate := range numbers {
			n := bound(burst)
			b := after(t, rate, burst, n)
			is(t, "empty", b, 0, int64(n))
			b.Tick()
			is(t, "empty, Tick", b, min(bound(rate), n), int64(n))
		}
	}
}

// P17.1: Take of a full bucket down to its last token, and more.
func TestTake(t *testing.T) {
	for _, burst := range []int{0, 1, 2, 5, 999, 1000000} {
		b := New(3, burst)
		for i := range burst {
			is(t, "ahead of Take", b, burst-i, int64(i))
			if !b.Take() {
				t.Fatalf("burst %d: Take %d is false", burst, i+1)
			}
			is(t, "behind Take", b, burst-i-1, int64(i+1))
		}
		for range 3 {
			if b.Take() {
				t.Errorf("burst %d: Take of the empty bucket is true", burst)
			}
			is(t, "behind the last Take", b, 0, int64(burst))
		}
	}
}

// P17.1: Tick of a bucket that is full, empty, lacks less than the rate, as much, more; rates and bursts at their ends.
func TestTick(t *testing.T) {
	const end = 1000000
	for _, c := range []struct{ rate, burst, taken, want int }{
		{2, 5, 0, 5},
		{2, 5, 1, 5},
		{2, 5, 2, 5},
		{2, 5, 3, 4},
		{2, 5, 4, 3},
		{2, 5, 5, 2},
		{1, 1, 0, 1},
		{1, 1, 1, 1},
		{1, 2, 2, 1},
		{0, 5, 0, 5},
		{0, 5, 3, 2},
		{0, 5, 5, 0},
		{-1, 5, 3, 2},
		{math.MinInt, 5, 3, 2},
		{3, 0, 0, 0},
		{3, -1, 0, 0},
		{0, 0, 0, 0},
		{-1, -1, 0, 0},
		{5, 5, 5, 5},
		{5, 5, 4, 5},
		{6, 5, 5, 5},
		{9, 5, 1, 5},
		{9, 5, 0, 5},
		{math.MaxInt, 5, 2, 5},
		{math.MaxInt, 5, 5, 5},
		{end, end, 3, end},
		{end, end, end, end},
		{end + 1, end + 1, end, end},
		{end - 1, end, end, end - 1},
		{1, end, 1, end},
		{1, end, 2, end - 1},
		{5 * end, end, 3, end},
		{math.MaxInt, math.MaxInt, 1, end},
	} {
		b := after(t, c.rate, c.burst, c.taken)
		is(t, "ahead of Tick", b, bound(c.burst)-c.taken, int64(c.taken))
		if b.Tick(); b.Left() != c.want || b.Taken() != int64(c.taken) {
			t.Errorf("New(%d, %d), %d taken, Tick: %d left, %d taken; want %d left", c.rate, c.burst, c.taken, b.Left(), b.Taken(), c.want)
		}
	}
}

// P17.1: Ticks fill an empty bucket step by step, and leave a full one full; what they brought can be taken.
func TestTicks(t *testing.T) {
	for _, rate := range []int{0, 1, 2, 3, 7, 10, 11} {
		const burst = 10
		b := after(t, rate, burst, burst)
		for i := range 14 {
			is(t, "ahead of Tick", b, min(rate*i, burst), burst)
			b.Tick()
		}
		left := b.Left()
		for i := range left {
			if !b.Take() {
				t.Errorf("rate %d: Take %d of %d is false", rate, i+1, left)
			}
		}
		if b.Take() {
			t.Errorf("rate %d: one more than %d", rate, left)
		}
		is(t, "empty again", b, 0, int64(burst+left))
	}
}

// P17.1: Ticks of a full bucket are not saved up for one that is empty.
func TestTicksAreNotSaved(t *testing.T) {
	b := New(2, 5)
	for range 100 {
		b.Tick()
	}
	for i := range 7 {
		if b.Take() != (i < 5) {
			t.Errorf("Take %d", i+1)
		}
	}
	is(t, "empty", b, 0, 5)
}

// P17.1: a Take that is refused costs nothing: all of the next Tick's tokens are there.
func TestRefusedTake(t *testing.T) {
	b := after(t, 2, 3, 3)
	for range 10 {
		if b.Take() {
			t.Error("Take of the empty bucket is true")
		}
	}
	b.Tick()
	is(t, "Tick", b, 2, 3)
}

// P17.1: the chapter's example.
func TestExample(t *testing.T) {
	b := New(1, 2)
	first, second, third := b.Take(), b.Take(), b.Take()
	b.Tick()
	if last := b.Take(); !first || !second || third || !last {
		t.Error(first, second, third, last)
	}
	is(t, "example", b, 0, 3)
}

// R3: a nil bucket tells zero values, and Ticks change nothing there.
func TestNil(t *testing.T) {
	var b *Bucket
	for range 3 {
		is(t, "nil", b, 0, 0)
		b.Tick()
		if b.Take() {
			t.Error("Take is true")
		}
	}
}

// R3: a bucket that New did not make is as one of rate and burst 0.
func TestZero(t *testing.T) {
	var b Bucket
	for range 3 {
		is(t, "zero", &b, 0, 0)
		b.Tick()
		if b.Take() {
			t.Error("Take is true")
		}
	}
}

// R2: two buckets keep to themselves.
func TestTwoBuckets(t *testing.T) {
	a, b := New(1, 3), New(1, 3)
	a.Take()
	a.Take()
	is(t, "a", a, 1, 2)
	is(t, "b", b, 3, 0)
	b.Tick()
	b.Take()
	is(t, "a", a, 1, 2)
	is(t, "b", b, 2, 1)
	a.Tick()
	is(t, "a", a, 2, 2)
	is(t, "b", b, 2, 1)
	for range 4 {
		b.Take()
	}
	c := New(2, 4)
	is(t, "a", a, 2, 2)
	is(t, "b", b, 0, 3)
	is(t, "c", c, 4, 0)
}

// moment is what was taken, and how many Ticks there were, up to a call.
type moment struct{ taken, ticks int }

// run has a row of calls (true: Take), holds each against plain numbers, and tells each moment.
func run(t *testing.T, rate, burst int, calls []bool) []moment {
	t.Helper()
	b, left := New(rate, burst), burst
	now := moment{}
	row := []moment{now}
	for i, take := range calls {
		if !take {
			b.Tick()
			left = min(left+rate, burst)
			now.ticks++
		} else {
			if got := b.Take(); got != (left > 0) {
				t.Fatalf("New(%d, %d): call %d of %v: Take is %v with %d left", rate, burst, i, calls, got, left)
			} else if got {
				left--
				now.taken++
			}
		}
		if b.Left() != left || b.Taken() != int64(now.taken) {
			t.Fatalf("New(%d, %d): call %d of %v: %d left, %d taken; want %d, %d", rate, burst, i, calls, b.Left(), b.Taken(), left, now.taken)
		}
		row = append(row, now)
	}
	return row
}

// keeps fails the test, unless between any two moments at most burst + rate T were taken.
func keeps(t *testing.T, rate, burst int, row []moment) {
	t.Helper()
	for i, from := range row {
		for _, to := range row[i:] {
			if to.taken-from.taken > burst+rate*(to.ticks-from.ticks) {
				t.Fatalf("rate %d, burst %d: %d taken in %d Ticks", rate, burst, to.taken-from.taken, to.ticks-from.ticks)
			}
		}
	}
}

// P17.1, P17.2: every row of ten calls, with small rates and bursts.
func TestRows(t *testing.T) {
	const long = 10
	calls := make([]bool, long)
	for rate := range 5 {
		for burst := range 5 {
			for row := range 1 << long {
				for i := range calls {
					calls[i] = row>>i&1 == 1
				}
				keeps(t, rate, burst, run(t, rate, burst, calls))
			}
		}
	}
}

// P17.1, P17.2: long runs, with many Takes a Tick and with few.
func TestRuns(t *testing.T) {
	r := rand.New(rand.NewSource(17))
	for range 300 {
		rate, burst, takes := r.Intn(30), r.Intn(60), 1+r.Intn(40)
		calls := make([]bool, 500)
		for i := range calls {
			calls[i] = r.Intn(takes+1) > 0
		}
		keeps(t, rate, burst, run(t, rate, burst, calls))
	}
}

// P17.2: who takes all there is, Tick by Tick, comes to just that bound, as far as the rate has room.
func TestGreedy(t *testing.T) {
	for _, rate := range []int{0, 1, 2, 4, 5, 6, 50} {
		const burst, ticks = 5, 20
		b := New(rate, burst)
		for range ticks {
			for b.Take() {
			}
			b.Tick()
		}
		for b.Take() {
		}
		is(t, "greedy", b, 0, int64(burst+min(rate, burst)*ticks))
	}
}

const (
	workers = 8
	times   = 20000
)

// atOnce lets workers run side by side, and waits for all of them; none begins ahead of the others, so that they meet.
func atOnce(work func(worker int)) {
	var all, here sync.WaitGroup
	here.Add(workers)
	for i := range workers {
		all.Go(func() {
			here.Done()
			here.Wait()
			work(i)
		})
	}
	all.Wait()
}

// inStep lets workers go through the rounds side by side: none begins a round ahead of the others.
func inStep(rounds int, work func(worker, round int)) {
	var here atomic.Int64
	atOnce(func(worker int) {
		for round := range rounds {
			here.Add(1)
			for here.Load() < int64(workers*(round+1)) {
				runtime.Gosched()
			}
			work(worker, round)
		}
	})
}

// P17.1: of many that Take at a time just as many succeed as there are tokens.
func TestManyTake(t *testing.T) {
	const burst = workers*times - 100
	b := New(1, burst)
	var took atomic.Int64
	atOnce(func(int) {
		for range times {
			if b.Take() {
				took.Add(1)
			}
		}
	})
	if took.Load() != burst {
		t.Errorf("took %d of %d", took.Load(), burst)
	}
	is(t, "many", b, 0, burst)
}

// P17.1: of many Ticks at a time none is lost, up to the burst; also where they meet as it gets full.
func TestManyTicks(t *testing.T) {
	const rate, ticks, few = 3, 1000, workers * 1000 * 3
	for _, burst := range []int{few - 1, few, few + 1, 2 * few} {
		b := after(t, rate, burst, burst)
		atOnce(func(int) {
			for range ticks {
				b.Tick()
			}
		})
		is(t, "many", b, min(few, burst), int64(burst))
	}
	const rounds, burst = 3000, workers*rate - 1
	var buckets [rounds]*Bucket
	for i := range buckets {
		buckets[i] = after(t, rate, burst, burst)
	}
	inStep(rounds, func(_, round int) { buckets[round].Tick() })
	for _, b := range buckets {
		is(t, "full", b, burst, burst)
	}
}

// P17.2: a Tick of a full bucket brings no more than the rate, even if many Take at the time.
func TestManyTakeAtTick(t *testing.T) {
	const rounds, rate, burst = 3000, 1, workers * 4
	var buckets [rounds]*Bucket
	for i := range buckets {
		buckets[i] = New(rate, burst)
	}
	inStep(rounds, func(worker, round int) {
		if worker == 0 {
			buckets[round].Tick()
		}
		for range 4 {
			buckets[round].Take()
		}
	})
	for _, b := range buckets {
		if sum := b.Taken() + int64(b.Left()); sum > burst+rate {
			t.Fatalf("%d taken and left of %d and one Tick", sum, burst)
		}
	}
}

// P17.2: also if many Take and Tick at a time, no more are taken than the burst and each Tick's rate.
func TestManyBounds(t *testing.T) {
	const rate, burst = 2, 7
	b := New(rate, burst)
	var took, ticks atomic.Int64
	atOnce(func(worker int) {
		for i := range times {
			if (i+worker)%9 == 0 {
				ticks.Add(1)
				b.Tick()
			} else if b.Take() {
				took.Add(1)
			}
			if left := b.Left(); left < 0 || left > burst {
				t.Errorf("%d left", left)
				return
			}
		}
	})
	most := burst + rate*ticks.Load()
	if b.Taken() != took.Load() || took.Load()+int64(b.Left()) > most {
		t.Errorf("took %d, told %d, left %d; want at most %d", took.Load(), b.Taken(), b.Left(), most)
	}
}
