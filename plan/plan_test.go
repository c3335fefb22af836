package plan

import (
	"math"
	"math/big"
	"math/rand"
	"slices"
	"testing"

	"tattler/api"
)

// counts are all that a cluster may have, and those that it may not.
var counts = []int{math.MinInt, math.MinInt + 1, -1 << 32, -8, -3, -2, -1, 0, 1, 2, 3, 4, 5, 6, 7, 8, 9, 10, 100, 1<<32 + 3, math.MaxInt - 1, math.MaxInt}

// ticks are both ends, and what is around each turn of all others and each round.
func ticks() []int64 {
	row := []int64{math.MinInt64, math.MinInt64 + 1, -1 << 32, -29, -28, -5, -4, -3, -2, -1}
	for t := range int64(130) {
		row = append(row, t)
	}
	for _, mid := range []int64{1 << 31, 1 << 32, 1 << 53, 1 << 62} {
		for d := int64(-30); d <= 30; d++ {
			row = append(row, mid+d)
		}
	}
	for d := int64(130); d >= 0; d-- {
		row = append(row, math.MaxInt64-d)
	}
	return row
}

// selves are both ends, what is around 0, and what is around the last of n nodes.
func selves(n int) []int {
	row := []int{math.MinInt, math.MinInt + 1, -1 << 32, -2, -1, 0, 1, 2, 3, 4, 5, 6, 7, 8, 9, 1 << 32, math.MaxInt - 1, math.MaxInt}
	if n > math.MinInt {
		row = append(row, n-1)
	}
	if n < math.MaxInt {
		row = append(row, n, n+1)
	}
	return row
}

// may is whether so many nodes tell one another at t, by the chapter's words.
func may(n int, t int64) bool {
	return 2 <= n && n <= 8 && t >= 0
}

// peer is the chapter's sum, in numbers that have no ends.
func peer(n, self int, t int64) int {
	if !may(n, t) || self < 0 || self > n-1 {
		return -1
	}
	at := new(big.Int).Mod(big.NewInt(t), big.NewInt(int64(n-1)))
	at.Add(at, big.NewInt(int64(self)))
	at.Add(at, big.NewInt(1))
	return int(at.Mod(at, big.NewInt(int64(n))).Int64())
}

// bucketOf is the chapter's quotient, in numbers that have no ends.
func bucketOf(n int, t int64) int {
	if !may(n, t) {
		return -1
	}
	at := new(big.Int).Div(big.NewInt(t), big.NewInt(int64(n-1)))
	return int(at.Mod(at, big.NewInt(4)).Int64())
}

// TestExample: the chapter's.
func TestExample(t *testing.T) {
	if got := Peer(3, 1, 0); got != 2 {
		t.Error(got)
	}
	if got := Peer(3, 1, 1); got != 0 {
		t.Error(got)
	}
}

// P19.1: whom each of each number of nodes tells in its first ticks.
func TestPeerRows(t *testing.T) {
	for _, x := range []struct {
		nodes, self int
		want        []int
	}{
		{2, 0, []int{1, 1, 1, 1}},
		{2, 1, []int{0, 0, 0, 0}},
		{3, 0, []int{1, 2, 1, 2, 1}},
		{3, 1, []int{2, 0, 2, 0, 2}},
		{3, 2, []int{0, 1, 0, 1, 0}},
		{5, 3, []int{4, 0, 1, 2, 4, 0}},
		{8, 0, []int{1, 2, 3, 4, 5, 6, 7, 1, 2}},
		{8, 7, []int{0, 1, 2, 3, 4, 5, 6, 0, 1}},
	} {
		for at, want := range x.want {
			if got := Peer(x.nodes, x.self, int64(at)); got != want {
				t.Errorf("Peer(%d, %d, %d) is %d, not %d", x.nodes, x.self, at, got, want)
			}
		}
	}
}

// P19.1: of which bucket is told, at the ends of each turn of all others.
func TestBucketRows(t *testing.T) {
	for _, x := range []struct {
		nodes int
		at    int64
		want  int
	}{
		{2, 0, 0}, {2, 1, 1}, {2, 3, 3}, {2, 4, 0}, {2, math.MaxInt64, 3},
		{3, 0, 0}, {3, 1, 0}, {3, 2, 1}, {3, 7, 3}, {3, 8, 0},
		{8, 6, 0}, {8, 7, 1}, {8, 13, 1}, {8, 14, 2}, {8, 20, 2}, {8, 21, 3}, {8, 27, 3}, {8, 28, 0},
	} {
		if got := Bucket(x.nodes, x.at); got != x.want {
			t.Errorf("Bucket(%d, %d) is %d, not %d", x.nodes, x.at, got, x.want)
		}
	}
}

// P19.1, R1: all edges and wrong inputs beside one another.
func TestPeerEdges(t *testing.T) {
	for _, n := range counts {
		for _, self := range selves(n) {
			for _, at := range ticks() {
				if got, want := Peer(n, self, at), peer(n, self, at); got != want {
					t.Fatalf("Peer(%d, %d, %d) is %d, not %d", n, self, at, got, want)
				}
			}
		}
	}
}

// P19.1, R1: likewise.
func TestBucketEdges(t *testing.T) {
	for _, n := range counts {
		for _, at := range ticks() {
			if got, want := Bucket(n, at), bucketOf(n, at); got != want {
				t.Fatalf("Bucket(%d, %d) is %d, not %d", n, at, got, want)
			}
		}
	}
}

// P19.1: any ticks of all sizes.
func TestAnyTicks(t *testing.T) {
	r := rand.New(rand.NewSource(19))
	for range 20000 {
		n, at := r.Intn(11)-1, int64(r.Uint64()>>r.Intn(64))
		self := r.Intn(11) - 1
		if got, want := Peer(n, self, at), peer(n, self, at); got != want {
			t.Fatalf("Peer(%d, %d, %d) is %d, not %d", n, self, at, got, want)
		}
		if got, want := Bucket(n, at), bucketOf(n, at); got != want {
			t.Fatalf("Bucket(%d, %d) is %d, not %d", n, at, got, want)
		}
	}
}

// P19.1: a round of each number of nodes, and none of those that may not be.
func TestRound(t *testing.T) {
	want := map[int]int{2: 4, 3: 8, 4: 12, 5: 16, 6: 20, 7: 24, 8: 28}
	for _, n := range counts {
		if got := Round(n); got != want[n] {
			t.Errorf("Round(%d) is %d, not %d", n, got, want[n])
		}
	}
}

// P19.1, R1: two rounds, twice six ticks, and as many more as there are hints, up to 64 of each of eight nodes.
func TestBound(t *testing.T) {
	hints := map[int]int{
		math.MinInt: 0, math.MinInt + 1: 0, -512: 0, -1: 0, 0: 0, 1: 1, 5: 5, 63: 63, 64: 64, 65: 65,
		511: 511, 512: 512, 513: 512, 1 << 32: 512, 1<<62 + 1: 512, math.MaxInt - 1: 512, math.MaxInt: 512,
	}
	for _, n := range counts {
		for given, counted := range hints {
			if got, want := Bound(n, given), 2*Round(n)+counted+12; got != want {
				t.Errorf("Bound(%d, %d) is %d, not %d", n, given, got, want)
			}
		}
	}
	if Bound(8, 512) != 580 || Bound(2, 0) != 20 || Bound(1, 0) != 12 || Bound(9, 3) != 15 {
		t.Error(Bound(8, 512), Bound(2, 0), Bound(1, 0), Bound(9, 3))
	}
}

// told is whom and what a node tells.
type told struct{ peer, bucket int }

// P19.2: in Round ticks, from any on, each other node is told of each bucket just once, and the node itself never.
func TestEachOnce(t *testing.T) {
	for n := 2; n <= api.MaxNodes; n++ {
		round := int64(Round(n))
		for self := range n {
			for _, from := range ticks() {
				if from < 0 || from > math.MaxInt64-round {
					continue
				}
				met := map[told]int{}
				for k := range round {
					met[told{Peer(n, self, from+k), Bucket(n, from+k)}]++
				}
				for other := range n {
					for b := range api.Buckets {
						want := 1
						if other == self {
							want = 0
						}
						if got := met[told{other, b}]; got != want {
							t.Fatalf("%d nodes, from %d on: %d tells %d of %d %d times", n, from, self, other, b, got)
						}
					}
				}
			}
		}
	}
}

// P19.1: at one tick each node is told by just one other, of one bucket.
func TestNoneByTwo(t *testing.T) {
	for n := 2; n <= api.MaxNodes; n++ {
		for _, at := range ticks() {
			if at < 0 {
				continue
			}
			var all []int
			for self := range n {
				p := Peer(n, self, at)
				if p == self {
					t.Fatalf("of %d nodes %d tells itself at %d", n, self, at)
				}
				all = append(all, p)
			}
			slices.Sort(all)
			for i, p := range all {
				if i != p {
					t.Fatalf("of %d nodes these are told at %d: %v", n, at, all)
				}
			}
		}
	}
}

// P19.1: in the ticks in which a bucket stays, all others are told of it.
func TestBucketStays(t *testing.T) {
	for n := 2; n <= api.MaxNodes; n++ {
		others := int64(n - 1)
		for turn := range int64(20) {
			met := map[int]bool{}
			for k := range others {
				if got, want := Bucket(n, turn*others+k), int(turn%4); got != want {
					t.Fatalf("Bucket(%d, %d) is %d, not %d", n, turn*others+k, got, want)
				}
				met[Peer(n, 0, turn*others+k)] = true
			}
			if len(met) != n-1 {
				t.Fatalf("of %d nodes %d are told in turn %d", n, len(met), turn)
			}
		}
	}
}

// R6: nothing is kept between calls.
func TestAgain(t *testing.T) {
	for range 3 {
		if Peer(5, 2, 1<<40) != peer(5, 2, 1<<40) || Bucket(5, 1<<40) != bucketOf(5, 1<<40) || Round(5) != 16 || Bound(5, 7) != 51 {
			t.Fatal("asked again they tell another thing")
		}
	}
}
