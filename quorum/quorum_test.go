package quorum

import (
	"math"
	"math/big"
	"math/bits"
	"math/rand"
	"testing"

	"tattler/api"
)

// strange are nodes that no cluster has.
var strange = []int{math.MinInt, math.MinInt + 1, -1 << 32, -9, -8, -2, -1, 8, 9, 15, 16, 63, 64, 255, 256, 1 << 32, 1<<32 + 3, math.MaxInt - 1, math.MaxInt}

// needs are those that can be met, and those that are met at once, or never.
var needs = []int{math.MinInt, math.MinInt + 1, -1 << 32, -8, -3, -1, 0, 1, 2, 3, 4, 5, 6, 7, 8, 9, 10, 1 << 32, 1<<32 + 2, math.MaxInt - 1, math.MaxInt}

// model is a Count by the chapter's words: each node that was told, in a map of its own.
type model struct {
	need int
	told map[int]bool
}

func newModel(need int) *model {
	return &model{need, map[int]bool{}}
}

func (m *model) add(node int) bool {
	if node < 0 || node > api.MaxNodes-1 || m.told[node] {
		return false
	}
	m.told[node] = true
	return len(m.told) == m.need
}

// agree tells whether a Count tells in every way what the model does.
func agree(t *testing.T, c *Count, m *model) {
	t.Helper()
	if c.Len() != len(m.told) || c.Done() != (len(m.told) >= m.need) {
		t.Fatalf("need %d, told %v: Len %d, Done %v", m.need, m.told, c.Len(), c.Done())
	}
	for node := -3; node < api.MaxNodes+3; node++ {
		if c.Has(node) != m.told[node] {
			t.Fatalf("need %d, told %v: Has(%d) is %v", m.need, m.told, node, c.Has(node))
		}
	}
}

// both tells a node to both, and holds them against each other; it tells what Add told.
func both(t *testing.T, c *Count, m *model, node int) bool {
	t.Helper()
	got, want := c.Add(node), m.add(node)
	if got != want {
		t.Fatalf("need %d, told %v: Add(%d) is %v", m.need, m.told, node, got)
	}
	agree(t, c, m)
	return got
}

// P21.1: the chapter's example.
func TestExample(t *testing.T) {
	c := New(2)
	for i, x := range []struct {
		node int
		want bool
	}{{1, false}, {1, false}, {0, true}, {2, false}} {
		if got := c.Add(x.node); got != x.want {
			t.Errorf("%d: Add(%d) is %v", i, x.node, got)
		}
	}
	if c.Len() != 3 || !c.Done() || !c.Has(0) || !c.Has(1) || !c.Has(2) || c.Has(3) {
		t.Error(c.Len(), c.Done())
	}
}

// P21.1: what a new one tells, whatever it needs.
func TestNew(t *testing.T) {
	for _, need := range needs {
		c := New(need)
		if c == nil {
			t.Fatal(need)
		}
		if c.Len() != 0 || c.Done() != (need <= 0) {
			t.Errorf("New(%d): Len %d, Done %v", need, c.Len(), c.Done())
		}
		for _, node := range append([]int{0, 1, 2, 3, 4, 5, 6, 7}, strange...) {
			if c.Has(node) {
				t.Errorf("New(%d) has %d", need, node)
			}
		}
	}
}

// P21.1: exact answers, step by step.
func TestRows(t *testing.T) {
	type step struct {
		node      int
		add, done bool
		len       int
	}
	for i, x := range []struct {
		need  int
		steps []step
	}{
		{1, []step{{0, true, true, 1}, {0, false, true, 1}, {7, false, true, 2}}},
		{1, []step{{-1, false, false, 0}, {8, false, false, 0}, {7, true, true, 1}, {7, false, true, 1}}},
		{2, []step{{7, false, false, 1}, {7, false, false, 1}, {0, true, true, 2}, {7, false, true, 2}, {0, false, true, 2}}},
		{3, []step{{2, false, false, 1}, {4, false, false, 2}, {2, false, false, 2}, {4, false, false, 2}, {3, true, true, 3}, {5, false, true, 4}}},
		{0, []step{{1, false, true, 1}, {2, false, true, 2}}},
		{-1, []step{{0, false, true, 1}, {0, false, true, 1}, {1, false, true, 2}}},
		{8, []step{{7, false, false, 1}, {6, false, false, 2}, {5, false, false, 3}, {4, false, false, 4}, {3, false, false, 5}, {2, false, false, 6}, {1, false, false, 7}, {1, false, false, 7}, {0, true, true, 8}, {0, false, true, 8}}},
		{9, []step{{0, false, false, 1}, {1, false, false, 2}, {2, false, false, 3}, {3, false, false, 4}, {4, false, false, 5}, {5, false, false, 6}, {6, false, false, 7}, {7, false, false, 8}, {8, false, false, 8}}},
	} {
		c := New(x.need)
		for j, s := range x.steps {
			if got := c.Add(s.node); got != s.add || c.Done() != s.done || c.Len() != s.len {
				t.Errorf("%d, %d: %v %v %d", i, j, got, c.Done(), c.Len())
			}
		}
	}
}

// P21.1: nodes that are none change nothing, whenever they come.
func TestStrangeNodes(t *testing.T) {
	for _, need := range needs {
		c, m := New(need), newModel(need)
		for node := range api.MaxNodes {
			for _, x := range strange {
				if both(t, c, m, x) || c.Has(x) {
					t.Fatalf("need %d, %d told: %d is counted", need, node, x)
				}
			}
			both(t, c, m, node)
		}
	}
}

// P21.1: every set of nodes, told in each of both ways, each one told again.
func TestSets(t *testing.T) {
	for _, need := range needs {
		for set := range 1 << api.MaxNodes {
			up, down := New(need), New(need)
			mu, md := newModel(need), newModel(need)
			for i := range api.MaxNodes {
				for _, x := range []struct {
					c    *Count
					m    *model
					node int
				}{{up, mu, i}, {down, md, api.MaxNodes - 1 - i}} {
					if set>>x.node&1 == 1 {
						both(t, x.c, x.m, x.node)
						if both(t, x.c, x.m, x.node) {
							t.Fatalf("need %d, set %b: %d tells true again", need, set, x.node)
						}
					}
				}
			}
			if n := bits.OnesCount(uint(set)); up.Len() != n || down.Len() != n {
				t.Fatalf("need %d, set %b: Len %d and %d", need, set, up.Len(), down.Len())
			}
		}
	}
}

// P21.1, P21.2: all orders of four nodes, among them both ends; true stands at the one that makes up the need.
func TestOrders(t *testing.T) {
	nodes := []int{0, 3, 4, 7}
	var walk func(order, rest []int)
	walk = func(order, rest []int) {
		if len(rest) == 0 {
			for need := -1; need <= 6; need++ {
				c := New(need)
				for i, node := range order {
					if got := c.Add(node); got != (i+1 == need) {
						t.Fatalf("need %d, order %v: Add(%d) is %v", need, order, node, got)
					}
				}
			}
			return
		}
		for i, node := range rest {
			left := append(append([]int{}, rest[:i]...), rest[i+1:]...)
			walk(append(append([]int{}, order...), node), left)
		}
	}
	walk(nil, nodes)
}

// P21.2: in long runs of any nodes Add tells true just once where the need can be met, else never.
func TestOnce(t *testing.T) {
	r := rand.New(rand.NewSource(21))
	for range 2000 {
		need := needs[r.Intn(len(needs))]
		c, m := New(need), newModel(need)
		times := 0
		for range 150 {
			node := r.Intn(api.MaxNodes+4) - 2
			if r.Intn(10) == 0 {
				node = strange[r.Intn(len(strange))]
			}
			done := c.Done()
			if both(t, c, m, node) {
				times++
				if done || !c.Done() {
					t.Fatalf("need %d: Add told true where Done went from %v to %v", need, done, c.Done())
				}
			}
		}
		want := 0
		if need >= 1 && need <= len(m.told) {
			want = 1
		}
		if times != want {
			t.Fatalf("need %d, told %v: Add told true %d times", need, m.told, times)
		}
	}
}

// P21.1: what is asked changes nothing.
func TestAsking(t *testing.T) {
	c := New(2)
	for range 5 {
		for _, node := range []int{-1, 0, 1, 7, 8} {
			if c.Has(node) {
				t.Error(node)
			}
		}
		if c.Len() != 0 || c.Done() {
			t.Error(c.Len())
		}
	}
	if c.Add(1) || c.Has(0) || c.Len() != 1 || !c.Add(0) {
		t.Error("asked")
	}
}

// P21.1, R2: counts keep to themselves.
func TestApart(t *testing.T) {
	a, b := New(1), New(1)
	if !a.Add(5) || b.Has(5) || b.Len() != 0 || b.Done() || !b.Add(5) {
		t.Error("one is told what the other was")
	}
	if x := New(1); x.Has(5) || x.Len() != 0 {
		t.Error("a new one is told what others were")
	}
}

// P21.1, R3: a nil count.
func TestNil(t *testing.T) {
	var c *Count
	for _, node := range append([]int{0, 1, 7}, strange...) {
		if c.Add(node) || c.Has(node) {
			t.Error(node)
		}
	}
	if c.Len() != 0 || c.Done() {
		t.Error(c.Len(), c.Done())
	}
}

// R3: one that New did not make needs none.
func TestPlainCount(t *testing.T) {
	var c Count
	if !c.Done() || c.Len() != 0 || c.Add(1) || !c.Has(1) || c.Len() != 1 {
		t.Error(c)
	}
}

// meets is the chapter's sum, in numbers that have no ends.
func meets(n, r, w int) bool {
	sum := new(big.Int).Add(big.NewInt(int64(r)), big.NewInt(int64(w)))
	return 1 <= r && r <= n && 1 <= w && w <= n && sum.Cmp(big.NewInt(int64(n))) > 0
}

// common is whether each r of n have one in common with each w of them, each set gone through.
func common(n, r, w int) bool {
	for a := range 1 << n {
		for b := range 1 << n {
			if bits.OnesCount(uint(a)) == r && bits.OnesCount(uint(b)) == w && a&b == 0 {
				return false
			}
		}
	}
	return true
}

// P21.1: Meet by rows.
func TestMeetRows(t *testing.T) {
	const top, low = math.MaxInt, math.MinInt
	for _, x := range []struct {
		n, r, w int
		want    bool
	}{
		{1, 1, 1, true}, {2, 1, 1, false}, {2, 1, 2, true}, {2, 2, 1, true}, {2, 2, 2, true},
		{3, 1, 2, false}, {3, 2, 1, false}, {3, 2, 2, true}, {3, 1, 3, true}, {3, 3, 1, true}, {3, 3, 3, true},
		{3, 0, 3, false}, {3, 3, 0, false}, {3, 4, 3, false}, {3, 3, 4, false}, {3, 4, 4, false}, {3, -1, 4, false}, {3, 4, -1, false}, {3, -1, 3, false}, {3, 3, -1, false},
		{5, 2, 3, false}, {5, 3, 3, true}, {8, 4, 4, false}, {8, 4, 5, true}, {8, 8, 1, true}, {9, 5, 5, true},
		{0, 0, 0, false}, {0, 1, 1, false}, {0, 0, 1, false}, {0, 1, 0, false}, {-1, 0, 0, false}, {-1, -1, -1, false}, {-3, 1, 1, false},
		{top, top, top, true}, {top, top, 1, true}, {top, 1, top, true}, {top, 1, top - 1, false}, {top, top - 1, 1, false}, {top, 2, top - 1, true},
		{top, 1 << 62, 1 << 62, true}, {top, 1<<62 - 1, 1 << 62, false}, {top, 1 << 62, 1<<62 - 1, false}, {top - 1, top, 1, false}, {top - 1, 1, top, false},
		{top, 0, top, false}, {top, low, top, false}, {top, top, low, false}, {top, low, low, false}, {top, -1, top, false},
		{low, low, low, false}, {low, top, top, false}, {low, 1, 1, false}, {low, low, 1, false}, {low, 1, low, false}, {low, 0, 0, false},
		{1, top, top, false}, {0, top, top, false}, {-1, top, top, false}, {0, low, low, false}, {1, 1, top, false}, {1, top, 1, false}, {1, low, 1, false},
	} {
		if got := Meet(x.n, x.r, x.w); got != x.want {
			t.Errorf("Meet(%d, %d, %d) is %v", x.n, x.r, x.w, got)
		}
	}
}

// P21.1: Meet tells true just where each r of n have one in common with each w of them.
func TestMeetSets(t *testing.T) {
	for n := 1; n <= 6; n++ {
		for r := 1; r <= n; r++ {
			for w := 1; w <= n; w++ {
				if got, want := Meet(n, r, w), common(n, r, w); got != want {
					t.Errorf("Meet(%d, %d, %d) is %v", n, r, w, got)
				}
			}
		}
	}
}

// P21.1, R1: all small numbers, and both ends, beside one another.
func TestMeetEdges(t *testing.T) {
	row := []int{math.MinInt, math.MinInt + 1, -1 << 62, -1 << 32, 1 << 32, 1<<62 - 1, 1 << 62, 1<<62 + 1, math.MaxInt - 2, math.MaxInt - 1, math.MaxInt}
	for i := -12; i <= 12; i++ {
		row = append(row, i)
	}
	for _, n := range row {
		for _, r := range row {
			for _, w := range row {
				if got, want := Meet(n, r, w), meets(n, r, w); got != want {
					t.Fatalf("Meet(%d, %d, %d) is %v", n, r, w, got)
				}
			}
		}
	}
}

// P21.1, R1: any numbers of all sizes.
func TestMeetAny(t *testing.T) {
	r := rand.New(rand.NewSource(211))
	any := func() int { return int(r.Uint64()) >> r.Intn(64) }
	for range 50000 {
		n, a := any(), any()
		for _, b := range []int{any(), n - a, n - a + 1} {
			if got, want := Meet(n, a, b), meets(n, a, b); got != want {
				t.Fatalf("Meet(%d, %d, %d) is %v", n, a, b, got)
			}
		}
	}
}
