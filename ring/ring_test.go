package ring

import (
	"fmt"
	"math"
	"math/rand"
	"slices"
	"strings"
	"sync"
	"testing"

	"tattler/api"
	"tattler/keys"
)

// plainPoint is a point, by the chapter's words.
type plainPoint struct {
	at      uint32
	node, k int
}

// ahead tells whether a stands ahead of b: by point, then node, then k.
func ahead(a, b plainPoint) bool {
	if a.at != b.at {
		return a.at < b.at
	}
	if a.node != b.node {
		return a.node < b.node
	}
	return a.k < b.k
}

// plainPoints is all points of n nodes, each put in ahead of those that stand behind it.
func plainPoints(n int) []plainPoint {
	var row []plainPoint
	for node := n - 1; node >= 0; node-- {
		for k := api.Points - 1; k >= 0; k-- {
			p := plainPoint{keys.Point(node, k), node, k}
			at := 0
			for at < len(row) && ahead(row[at], p) {
				at++
			}
			row = slices.Insert(row, at, p)
		}
	}
	return row
}

// plainOrder is Order by the chapter's words: the points that are the place or above, rising, then the others.
func plainOrder(n int, key string) []int {
	points := plainPoints(n)
	var walk []plainPoint
	for _, p := range points {
		if p.at >= keys.Place(key) {
			walk = append(walk, p)
		}
	}
	for _, p := range points {
		if p.at < keys.Place(key) {
			walk = append(walk, p)
		}
	}
	var order []int
	for _, p := range walk {
		if !slices.Contains(order, p.node) {
			order = append(order, p.node)
		}
	}
	return order
}

// keyAt is the key whose place is just the point (node, k).
func keyAt(node, k int) string {
	return string([]byte{'n', byte(node), 'p', byte(k)})
}

// beyond is a key whose place is below all points of n nodes, and one whose place is above all.
func beyond(t *testing.T, n int) (low, high string) {
	t.Helper()
	points := plainPoints(n)
	for i := 0; low == "" || high == ""; i++ {
		if i > 1<<20 {
			t.Fatal("no key beyond all points")
		}
		key := fmt.Sprint("key", i)
		if keys.Place(key) < points[0].at {
			low = key
		}
		if keys.Place(key) > points[len(points)-1].at {
			high = key
		}
	}
	return low, high
}

// someKeys is keys of all kinds: the edges, each point's own, beyond all points, and others.
func someKeys(t *testing.T) []string {
	t.Helper()
	row := []string{"", "\x00", "\xff", "a", "ab", "ba", "\xff\xfe\x80", "%2f", "é", strings.Repeat("k", api.MaxKey), strings.Repeat("k", api.MaxKey+1), strings.Repeat("\xff", 5000)}
	for node := range api.MaxNodes {
		for k := range api.Points {
			row = append(row, keyAt(node, k))
		}
	}
	for n := 1; n <= api.MaxNodes; n++ {
		low, high := beyond(t, n)
		row = append(row, low, high)
	}
	random := rand.New(rand.NewSource(14))
	for range 300 {
		key := make([]byte, random.Intn(40))
		random.Read(key)
		row = append(row, string(key))
	}
	return row
}

// P14.1: a ring has n nodes, not below 0, not above MaxNodes, and nothing is put in order yet.
func TestNew(t *testing.T) {
	for _, c := range []struct{ n, want int }{
		{math.MinInt, 0}, {-9, 0}, {-1, 0}, {0, 0}, {1, 1}, {2, 2}, {7, 7},
		{8, 8}, {9, 8}, {100, 8}, {math.MaxInt, 8},
	} {
		r := New(c.n)
		if r == nil || r.Nodes() != c.want || r.Made() != 0 {
			t.Errorf("New(%d): Nodes %d, Made %d; want Nodes %d", c.n, r.Nodes(), r.Made(), c.want)
		}
		if got := r.Order("k"); !slices.Equal(got, plainOrder(c.want, "k")) {
			t.Errorf("New(%d).Order = %v, want %v", c.n, got, plainOrder(c.want, "k"))
		}
		if r.Nodes() != c.want {
			t.Errorf("New(%d): Nodes %d behind Order", c.n, r.Nodes())
		}
	}
}

// P14.1: the points are put in order at the first question, whichever it is, and never again.
func TestMade(t *testing.T) {
	questions := []struct {
		name string
		ask  func(r *Ring)
	}{
		{"Order", func(r *Ring) { r.Order("k") }},
		{"Order of no byte", func(r *Ring) { r.Order("") }},
		{"Owners", func(r *Ring) { r.Owners("k", 2) }},
		{"Owners of all", func(r *Ring) { r.Owners("k", 100) }},
		{"Owns", func(r *Ring) { r.Owns(0, "k", 2) }},
	}
	for n := 0; n <= api.MaxNodes; n++ {
		for _, first := range questions {
			r := New(n)
			for range 3 {
				if r.Nodes() != n || r.Made() != 0 {
					t.Errorf("%d nodes: Made %d ahead of the first question", n, r.Made())
				}
			}
			first.ask(r)
			if r.Made() != 1 {
				t.Errorf("%d nodes: Made %d behind %s", n, r.Made(), first.name)
			}
			for range 10 {
				for _, next := range questions {
					next.ask(r)
				}
			}
			if r.Made() != 1 || r.Nodes() != n {
				t.Errorf("%d nodes: Made %d, Nodes %d behind many", n, r.Made(), r.Nodes())
			}
		}
	}
}

// P14.1: putting in order is kept, not done anew: what is kept is the same memory behind many questions, and is in order.
func TestPointsAreKept(t *testing.T) {
	for n := 1; n <= api.MaxNodes; n++ {
		r := New(n)
		if len(r.points) != 0 {
			t.Errorf("%d nodes: points ahead of the first question", n)
		}
		r.Order("a")
		first := &r.points[0]
		var got []plainPoint
		for _, key := range someKeys(t) {
			r.Order(key)
			r.Owners(key, 3)
			r.Owns(1, key, 3)
		}
		for _, p := range r.points {
			got = append(got, plainPoint{p.at, p.node, p.k})
		}
		if first != &r.points[0] || !slices.Equal(got, plainPoints(n)) {
			t.Errorf("%d nodes: %v", n, got)
		}
	}
}

// P14.1: points that are alike stand by node, then by k.
func TestCompare(t *testing.T) {
	row := []point{{0, 0, 0}, {0, 0, 1}, {0, 1, 0}, {0, 1, 3}, {1, 0, 0}, {math.MaxUint32 - 1, 7, 3}, {math.MaxUint32, 0, 2}, {math.MaxUint32, 7, 0}}
	for i, a := range row {
		for j, b := range row {
			got := compare(a, b)
			if (got < 0) != (i < j) || (got > 0) != (i > j) {
				t.Errorf("compare(%v, %v) = %d", a, b, got)
			}
		}
	}
}

// P14.1: many users at a time have it put in order once, and all are told the same.
func TestManyUsers(t *testing.T) {
	for n := 1; n <= api.MaxNodes; n++ {
		r := New(n)
		want := plainOrder(n, "key")
		var all sync.WaitGroup
		for i := range 20 {
			all.Add(1)
			go func() {
				defer all.Done()
				if made := r.Made(); made != 0 && made != 1 {
					t.Errorf("Made %d", made)
				}
				if got := r.Order("key"); !slices.Equal(got, want) || r.Made() != 1 {
					t.Errorf("Order %v, want %v; Made %d", got, want, r.Made())
				}
				if got := r.Owns(i%n, "key", 1); got != (want[0] == i%n) {
					t.Errorf("Owns(%d) = %v", i%n, got)
				}
			}()
		}
		all.Wait()
		if r.Made() != 1 {
			t.Errorf("Made %d", r.Made())
		}
	}
}

// P14.2: Order is the nodes of the points from the key's place on, for keys of all kinds.
func TestOrder(t *testing.T) {
	row := someKeys(t)
	for n := 0; n <= api.MaxNodes; n++ {
		r := New(n)
		for _, key := range row {
			if got := r.Order(key); !slices.Equal(got, plainOrder(n, key)) {
				t.Errorf("%d nodes: Order(%q) = %v, want %v", n, key, got, plainOrder(n, key))
			}
		}
	}
}

// P14.2: a few orders worked out apart from this program.
func TestOrderByHand(t *testing.T) {
	for _, c := range []struct {
		n    int
		key  string
		want []int
	}{
		{0, "x", nil},
		{1, "x", []int{0}},
		{3, "x", []int{1, 0, 2}},
		{3, "", []int{1, 0, 2}},
		{5, "ab", []int{1, 4, 0, 3, 2}},
		{8, "a", []int{6, 4, 7, 3, 5, 1, 0, 2}},
		{8, "key1", []int{5, 1, 0, 6, 3, 2, 7, 4}},
		{8, "\xff", []int{5, 4, 0, 6, 7, 3, 1, 2}},
	} {
		if got := New(c.n).Order(c.key); !slices.Equal(got, c.want) {
			t.Errorf("%d nodes: Order(%q) = %v, want %v", c.n, c.key, got, c.want)
		}
	}
}

// P14.2: a point that is just the key's place is the first, not the last; the node of the next point does not come ahead of it.
func TestOrderAtAPoint(t *testing.T) {
	for n := 1; n <= api.MaxNodes; n++ {
		r := New(n)
		for node := range n {
			for k := range api.Points {
				key := keyAt(node, k)
				if keys.Place(key) != keys.Point(node, k) {
					t.Fatalf("the place of %q is no point", key)
				}
				if got := r.Order(key); len(got) != n || got[0] != node {
					t.Errorf("%d nodes: Order at point %d of node %d = %v", n, k, node, got)
				}
			}
		}
	}
}

// P14.2: just ahead of a point, at it, and just behind it, at both ends of the numbers too.
func TestFrom(t *testing.T) {
	r := New(api.MaxNodes)
	r.Order("a")
	for i, p := range r.points {
		for _, c := range []struct {
			place uint32
			want  int
		}{{p.at - 1, i}, {p.at, i}, {p.at + 1, i + 1}} {
			if got := r.from(c.place); got != c.want {
				t.Errorf("from(%d) = %d, want %d", c.place, got, c.want)
			}
		}
	}
	if r.from(0) != 0 || r.from(math.MaxUint32) != len(r.points) {
		t.Errorf("from(0) = %d, from of the last number = %d", r.from(0), r.from(math.MaxUint32))
	}
	alike := &Ring{nodes: 2, points: []point{{0, 0, 0}, {5, 0, 1}, {5, 1, 0}, {math.MaxUint32, 1, 1}}}
	for place, want := range map[uint32]int{0: 0, 1: 1, 5: 1, 6: 3, math.MaxUint32: 3} {
		if got := alike.from(place); got != want {
			t.Errorf("from(%d) = %d among points that are alike, want %d", place, got, want)
		}
	}
}

// P14.2: behind all points the first one comes, as it does ahead of all.
func TestOrderBeyondAllPoints(t *testing.T) {
	for n := 1; n <= api.MaxNodes; n++ {
		r := New(n)
		low, high := beyond(t, n)
		first := plainPoints(n)[0].node
		a, b := r.Order(low), r.Order(high)
		if !slices.Equal(a, b) || len(a) != n || a[0] != first {
			t.Errorf("%d nodes: %v ahead of all, %v behind all, the first point is of node %d", n, a, b, first)
		}
	}
}

// P14.2, P14.3: Owners is the beginning of Order: of fewer, of as many, of more than there are, of 0 and below.
func TestOwners(t *testing.T) {
	counts := []int{math.MinInt, -8, -1, 0, 1, 2, 3, 4, 5, 6, 7, 8, 9, 100, math.MaxInt}
	for n := 0; n <= api.MaxNodes; n++ {
		r := New(n)
		for _, key := range someKeys(t) {
			order := plainOrder(n, key)
			var last []int
			for _, count := range counts {
				got := r.Owners(key, count)
				if !slices.Equal(got, order[:max(0, min(count, n))]) {
					t.Errorf("%d nodes: Owners(%q, %d) = %v of %v", n, key, count, got, order)
				}
				if len(got) < len(last) || !slices.Equal(got[:len(last)], last) {
					t.Errorf("%d nodes: Owners(%q, %d) = %v does not begin with %v", n, key, count, got, last)
				}
				last = got
			}
		}
	}
}

// P14.2: Owns is true of each owner and false of each other node, of those that there are none of, and of no owners.
func TestOwns(t *testing.T) {
	counts := []int{math.MinInt, -1, 0, 1, 2, 3, 4, 5, 6, 7, 8, 9, math.MaxInt}
	for n := 0; n <= api.MaxNodes; n++ {
		r := New(n)
		for _, key := range someKeys(t) {
			order := plainOrder(n, key)
			for _, count := range counts {
				owners := order[:max(0, min(count, n))]
				for node := -2; node < 12; node++ {
					if got := r.Owns(node, key, count); got != slices.Contains(owners, node) {
						t.Errorf("%d nodes: Owns(%d, %q, %d) = %v, owners %v", n, node, key, count, got, owners)
					}
				}
				for _, node := range []int{math.MinInt, math.MinInt + 1, -256, 256, 1 << 32, math.MaxInt} {
					if r.Owns(node, key, count) {
						t.Errorf("%d nodes: Owns(%d, %q, %d)", n, node, key, count)
					}
				}
			}
		}
	}
}

// P14.3: Order has each node once.
func TestOrderHasEachNodeOnce(t *testing.T) {
	for n := 0; n <= api.MaxNodes; n++ {
		r := New(n)
		for _, key := range someKeys(t) {
			seen := make([]int, n)
			for _, node := range r.Order(key) {
				if node < 0 || node >= n {
					t.Fatalf("%d nodes: node %d", n, node)
				}
				seen[node]++
			}
			for node, times := range seen {
				if times != 1 {
					t.Errorf("%d nodes: Order(%q) has node %d %d times", n, key, node, times)
				}
			}
		}
	}
}

// Each node is asked first for some key: the points are spread.
func TestEachNodeIsFirst(t *testing.T) {
	r := New(api.MaxNodes)
	first := make([]int, api.MaxNodes)
	for i := range 2000 {
		first[r.Order(fmt.Sprint("key", i))[0]]++
	}
	for node, times := range first {
		if times == 0 {
			t.Errorf("node %d is never first", node)
		}
	}
}

// R2: what is told is the caller's own: written over to its capacity, it changes nothing.
func TestMemory(t *testing.T) {
	r := New(api.MaxNodes)
	want := plainOrder(api.MaxNodes, "key")
	for count := range 10 {
		for _, told := range [][]int{r.Order("key"), r.Owners("key", count)} {
			told = told[:cap(told)]
			for i := range told {
				told[i] = -7
			}
		}
		if got := r.Order("key"); !slices.Equal(got, want) {
			t.Errorf("Order = %v, want %v", got, want)
		}
		if got := r.Owners("key", count); !slices.Equal(got, want[:min(count, api.MaxNodes)]) {
			t.Errorf("Owners = %v of %v", got, want)
		}
	}
	a, b := r.Owners("key", 3), r.Owners("key", 3)
	a[0], a[1] = 90, 91
	if !slices.Equal(b, want[:3]) {
		t.Errorf("two answers share memory: %v", b)
	}
}

// R6: rings of as many nodes tell the same, whatever they were asked ahead; a ring keeps to itself.
func TestRingsAreAlike(t *testing.T) {
	a, b, other := New(5), New(5), New(3)
	row := someKeys(t)
	for i, key := range row {
		a.Order(row[len(row)-1-i])
		other.Order(key)
		if !slices.Equal(a.Order(key), b.Order(key)) || !slices.Equal(b.Order(key), plainOrder(5, key)) {
			t.Errorf("Order(%q) = %v, %v", key, a.Order(key), b.Order(key))
		}
	}
}

// P14.1: a ring is told its nodes by New alone: one that New did not make has none.
func TestZeroRing(t *testing.T) {
	r := new(Ring)
	if r.Nodes() != 0 || r.Made() != 0 || len(r.Order("k")) != 0 || len(r.Owners("k", 3)) != 0 || r.Owns(0, "k", 1) {
		t.Error("a ring that New did not make has nodes")
	}
}

// R3: a nil ring tells zero values.
func TestNil(t *testing.T) {
	var r *Ring
	for _, key := range []string{"", "k", "\xff"} {
		for _, n := range []int{math.MinInt, -1, 0, 1, 8, math.MaxInt} {
			if r.Order(key) != nil || r.Owners(key, n) != nil || r.Owns(0, key, n) || r.Owns(-1, key, n) {
				t.Errorf("a nil ring has owners of %q", key)
			}
		}
	}
	if r.Nodes() != 0 || r.Made() != 0 {
		t.Errorf("a nil ring: Nodes %d, Made %d", r.Nodes(), r.Made())
	}
}
