package lazy

import (
	"bytes"
	"hash/crc32"
	"hash/fnv"
	"math"
	"slices"
	"sync"
	"sync/atomic"
	"testing"
)

// noted makes a table whose make tells 3i + 5 and notes each call.
func noted(n int) (*Table, *[]int) {
	calls := new([]int)
	return New(n, func(i int) uint32 {
		*calls = append(*calls, i)
		return uint32(3*i + 5)
	}), calls
}

// upTo is 0, 1, .., n - 1.
func upTo(n int) []int {
	var out []int
	for i := range n {
		out = append(out, i)
	}
	return out
}

// P2.1: a table has n numbers, not below 0, not above 4096, and none is made yet.
func TestNew(t *testing.T) {
	for _, c := range []struct{ n, want int }{
		{math.MinInt, 0}, {-1, 0}, {0, 0}, {1, 1}, {2, 2}, {256, 256},
		{4095, 4095}, {4096, 4096}, {4097, 4096}, {math.MaxInt, 4096},
	} {
		x, calls := noted(c.n)
		if x == nil || x.Len() != c.want || x.Made() != 0 || len(*calls) != 0 {
			t.Errorf("New(%d): Len %d, Made %d, %d calls; want Len %d", c.n, x.Len(), x.Made(), len(*calls), c.want)
		}
		if y := New(c.n, nil); y == nil || y.Len() != c.want || y.Made() != 0 {
			t.Errorf("New(%d, nil): Len %d, Made %d; want Len %d", c.n, y.Len(), y.Made(), c.want)
		}
	}
}

// P2.1: each At tells what make told of that place, whichever place is asked for first.
func TestAt(t *testing.T) {
	for _, n := range []int{1, 2, 5, 4095, 4096, 4097, math.MaxInt} {
		size := min(n, 4096)
		for _, first := range []int{0, size / 2, size - 1} {
			x, calls := noted(n)
			if got := x.At(first); got != uint32(3*first+5) {
				t.Errorf("New(%d).At(%d) = %d", n, first, got)
			}
			if !slices.Equal(*calls, upTo(size)) || x.Made() != size {
				t.Errorf("New(%d).At(%d): %d calls of make, Made %d", n, first, len(*calls), x.Made())
			}
			for i := range size {
				if got := x.At(i); got != uint32(3*i+5) {
					t.Fatalf("New(%d): At(%d) = %d behind At(%d)", n, i, got, first)
				}
			}
			if len(*calls) != size || x.Made() != size || x.Len() != size {
				t.Errorf("New(%d): %d calls, Made %d, Len %d at the end", n, len(*calls), x.Made(), x.Len())
			}
		}
	}
}

// P2.1: a place that there is none of is 0, and calls nothing, ahead of the first At and behind it.
func TestAtBeyond(t *testing.T) {
	for _, n := range []int{-1, 0, 1, 4, 4096, 5000} {
		x, calls := noted(n)
		size := x.Len()
		beyond := []int{math.MinInt, -size - 1, -1, size, size + 1, math.MaxInt}
		for _, i := range beyond {
			if got := x.At(i); got != 0 || x.Made() != 0 || len(*calls) != 0 {
				t.Errorf("New(%d).At(%d) = %d, %d calls, Made %d", n, i, got, len(*calls), x.Made())
			}
		}
		x.At(0)
		for _, i := range beyond {
			if got := x.At(i); got != 0 || x.Made() != size || len(*calls) != size {
				t.Errorf("New(%d).At(%d) = %d behind At(0), %d calls, Made %d", n, i, got, len(*calls), x.Made())
			}
		}
	}
}

// P2.1: what make tells is asked once: a make that would tell otherwise the next time does not matter.
func TestAtStays(t *testing.T) {
	count := uint32(0)
	x := New(3, func(int) uint32 { count++; return count })
	for range 3 {
		if a, b, c := x.At(2), x.At(0), x.At(1); a != 3 || b != 1 || c != 2 {
			t.Fatal(a, b, c)
		}
	}
}

// P2.1: every number of 32 bits may stand in a table.
func TestAtWide(t *testing.T) {
	x := New(3, func(i int) uint32 { return math.MaxUint32 - uint32(i) })
	if x.At(0) != math.MaxUint32 || x.At(1) != math.MaxUint32-1 || x.At(2) != math.MaxUint32-2 {
		t.Error(x.At(0), x.At(1), x.At(2))
	}
}

// P2.1: with a nil make all numbers are 0, and none is called.
func TestNilMake(t *testing.T) {
	for _, n := range []int{-1, 0, 1, 7, 4096, 4097} {
		x := New(n, nil)
		for _, i := range []int{math.MinInt, -1, 0, 1, x.Len() - 1, x.Len(), math.MaxInt} {
			if x.At(i) != 0 || x.Made() != 0 {
				t.Errorf("New(%d, nil).At(%d) = %d, Made %d", n, i, x.At(i), x.Made())
			}
		}
	}
}

// P2.1 (R3): a make that panics ends no call of the table; its other numbers stand.
func TestMakePanics(t *testing.T) {
	x := New(4, func(i int) uint32 {
		if i == 1 {
			panic("no")
		}
		return uint32(i + 10)
	})
	if x.At(1) != 0 || x.At(0) != 10 || x.At(3) != 13 || x.Made() != 4 {
		t.Error(x.At(1), x.At(0), x.At(3), x.Made())
	}
}

// P2.1 (R2): tables keep to themselves, also those of one make.
func TestApart(t *testing.T) {
	calls := 0
	tell := func(i int) uint32 { calls++; return uint32(calls*100 + i) }
	x, y := New(2, tell), New(2, tell)
	if x.At(0) != 100 || x.Made() != 2 || y.Made() != 0 || y.At(1) != 401 || x.At(0) != 100 || y.Made() != 2 {
		t.Error(x.At(0), y.At(1), x.Made(), y.Made())
	}
}

// P2.1, P2.2: a nil table tells zero values.
func TestNil(t *testing.T) {
	var x *Table
	for _, i := range []int{math.MinInt, -1, 0, 1, 255, 4096, math.MaxInt} {
		if x.At(i) != 0 {
			t.Errorf("At(%d) = %d", i, x.At(i))
		}
	}
	if x.Len() != 0 || x.Made() != 0 {
		t.Error(x.Len(), x.Made())
	}
}

// P2.2: Poly is the table of CRC-32, made when it is first asked for.
func TestPoly(t *testing.T) {
	x := Poly()
	if x.Len() != 256 || x.Made() != 0 || x.At(-1) != 0 || x.At(256) != 0 || x.Made() != 0 {
		t.Error(x.Len(), x.Made())
	}
	want := crc32.MakeTable(0xedb88320)
	for i := range 256 {
		if x.At(i) != want[i] {
			t.Errorf("At(%d) = %x, want %x", i, x.At(i), want[i])
		}
	}
	if x.Made() != 256 || Poly().Made() != 0 {
		t.Error("Made", x.Made(), Poly().Made())
	}
}

// texts is bytes of many kinds: none, each single one, long ones.
func texts() [][]byte {
	out := [][]byte{nil, {}, []byte("123456789"), []byte("a"), []byte("ab"), []byte("ba"), []byte("n\x00p\x00")}
	for i := range 256 {
		out = append(out, []byte{byte(i)}, []byte{byte(i), 0}, []byte{0, byte(i), 255})
	}
	long := make([]byte, 3000)
	for i := range long {
		long[i] = byte(i * i >> 3)
	}
	return append(out, long, make([]byte, 1000), bytes.Repeat([]byte{255}, 1000))
}

// P2.2: with Poly, Sum is the CRC-32.
func TestSum(t *testing.T) {
	if got := Sum(Poly(), []byte("123456789")); got != 0xcbf43926 {
		t.Errorf("the document's example: %x", got)
	}
	x := Poly()
	for _, b := range texts() {
		was := bytes.Clone(b)
		if got, want := Sum(x, b), crc32.ChecksumIEEE(was); got != want || !bytes.Equal(b, was) {
			t.Errorf("Sum of %x = %x, want %x", b, got, want)
		}
	}
	if x.Made() != 256 {
		t.Error("Made", x.Made())
	}
}

// P2.2: Sum of no bytes is 0 and asks nothing of the table.
func TestSumOfNone(t *testing.T) {
	for _, b := range [][]byte{nil, {}} {
		x, calls := noted(256)
		if Sum(x, b) != 0 || Sum(nil, b) != 0 || x.Made() != 0 || len(*calls) != 0 {
			t.Error(Sum(x, b), Sum(nil, b), x.Made())
		}
	}
}

// P2.2: Sum takes the numbers of the table that is handed in, whatever they are; those that there are none of are 0.
func TestSumOfOthers(t *testing.T) {
	other := crc32.MakeTable(crc32.Castagnoli)
	x := New(256, func(i int) uint32 { return other[i] })
	short := New(3, func(i int) uint32 { return 0x80000000 + uint32(i) })
	for _, b := range texts() {
		if got, want := Sum(x, b), crc32.Checksum(b, other); got != want {
			t.Errorf("Sum of %x = %x, want %x", b, got, want)
		}
		if got, want := Sum(short, b), sumBy(b, func(i byte) uint32 {
			if i < 3 {
				return 0x80000000 + uint32(i)
			}
			return 0
		}); got != want {
			t.Errorf("Sum of %x by a short table = %x, want %x", b, got, want)
		}
	}
}

// sumBy says in plain steps what Sum has to tell.
func sumBy(b []byte, at func(i byte) uint32) uint32 {
	sum := uint32(0xffffffff)
	for i := range b {
		low := byte(sum&0xff) ^ b[i]
		sum = at(low) ^ (sum / 256)
	}
	return sum ^ 0xffffffff
}

// P2.2: with a nil table each number is 0.
func TestSumNil(t *testing.T) {
	for want, b := range map[uint32]string{0: "", 0xff000000: "a", 0xffff0000: "ab", 0xffffff00: "abc", 0xffffffff: "abcd"} {
		if got := Sum(nil, []byte(b)); got != want {
			t.Errorf("Sum(nil, %q) = %x, want %x", b, got, want)
		}
	}
	if Sum(nil, []byte("abcde")) != 0xffffffff || Sum(New(256, nil), []byte("ab")) != 0xffff0000 {
		t.Error("a table of noughts")
	}
}

// P2.2, P2.3: what lies behind a list's length is not read.
func TestLength(t *testing.T) {
	b := []byte("12345678900000")[:9]
	if Sum(Poly(), b) != 0xcbf43926 || Mix(b) != Mix([]byte("123456789")) {
		t.Errorf("%x %x", Sum(Poly(), b), Mix(b))
	}
}

// P2.3: Mix is the 32-bit FNV-1a sum with its bits stirred at the end.
func TestMix(t *testing.T) {
	for _, b := range texts() {
		was := bytes.Clone(b)
		h := fnv.New32a()
		h.Write(b)
		want := uint64(h.Sum32())
		want ^= want >> 15
		want = want * 0x85ebca6b % (1 << 32)
		want ^= want >> 13
		if got := Mix(b); uint64(got) != want || !bytes.Equal(b, was) {
			t.Errorf("Mix of %x = %x, want %x", b, got, want)
		}
	}
	if Mix(nil) != Mix([]byte{}) {
		t.Error("nil and empty")
	}
}

// P2.3: numbers that were worked out apart from this program, that of no bytes among them.
func TestMixKnown(t *testing.T) {
	for b, want := range map[string]uint32{"": 0x1ff249c1, "a": 0x43c095d, "n\x00p\x00": 0x5bade24b} {
		if got := Mix([]byte(b)); got != want {
			t.Errorf("Mix of %q = %x, want %x", b, got, want)
		}
	}
}

// P2.4: Made is 0 or Len, in every row of calls.
func TestMadeAllOrNone(t *testing.T) {
	places := []int{math.MinInt, -1, 0, 1, 2, 3, math.MaxInt}
	for _, n := range []int{-1, 0, 1, 3} {
		for row := range len(places) * len(places) * len(places) {
			x, calls := noted(n)
			asked := false
			for left, k := row, 0; k < 3; k++ {
				i := places[left%len(places)]
				left /= len(places)
				x.At(i)
				asked = asked || i >= 0 && i < x.Len()
				want := 0
				if asked {
					want = x.Len()
				}
				if x.Made() != want || len(*calls) != want {
					t.Fatalf("New(%d), row %d: Made %d, %d calls, want %d", n, row, x.Made(), len(*calls), want)
				}
			}
		}
	}
}

// P2.1, P2.4: many that ask at a time have it made once, and see nothing or all of it.
func TestMany(t *testing.T) {
	const size, workers = 500, 8
	for range 20 {
		var calls [size]atomic.Int32
		x := New(size, func(i int) uint32 {
			calls[i].Add(1)
			return uint32(i + 1)
		})
		var all, here sync.WaitGroup
		here.Add(workers)
		for w := range workers {
			all.Go(func() {
				here.Done()
				here.Wait()
				for i := range size {
					place := (i + w*61) % size
					if made := x.Made(); made != 0 && made != size {
						t.Errorf("Made %d", made)
					}
					if got := x.At(place); got != uint32(place+1) || x.Made() != size {
						t.Errorf("At(%d) = %d, Made %d", place, got, x.Made())
						return
					}
				}
			})
		}
		all.Wait()
		for i := range calls {
			if calls[i].Load() != 1 {
				t.Fatalf("make(%d) was called %d times", i, calls[i].Load())
			}
		}
	}
}

// P2.4: one who asks while the numbers are made sees none of them counted.
func TestMadeMeanwhile(t *testing.T) {
	middle, seen := make(chan bool), make(chan bool)
	x := New(4, func(i int) uint32 {
		if i == 2 {
			middle <- true
			<-seen
		}
		return 1
	})
	var all sync.WaitGroup
	all.Go(func() { x.At(0) })
	<-middle
	if made := x.Made(); made != 0 {
		t.Errorf("Made %d while they are made", made)
	}
	seen <- true
	all.Wait()
	if x.Made() != 4 {
		t.Errorf("Made %d at the end", x.Made())
	}
}
