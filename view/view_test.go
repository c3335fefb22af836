package view

import (
	"math"
	"math/rand"
	"slices"
	"testing"

	"tattler/api"
	"tattler/member"
)

func alive(inc int64) api.Member   { return api.Member{State: api.Alive, Inc: inc} }
func suspect(inc int64) api.Member { return api.Member{State: api.Suspect, Inc: inc} }
func dead(inc int64) api.Member    { return api.Member{State: api.Dead, Inc: inc} }

// incs are incarnations that may be: few, and both ends.
var incs = []int64{0, 1, 2, 7, api.MaxCount - 2, api.MaxCount - 1, api.MaxCount}

// mayNot are members that may not be: by the state, by the incarnation, by both.
var mayNot = []api.Member{
	{State: -1}, {State: 3}, {State: -1, Inc: 9}, {State: 3, Inc: 9}, {State: math.MinInt, Inc: 1}, {State: math.MaxInt, Inc: 1}, {State: 257, Inc: 5}, {State: 1<<32 + 1, Inc: 5},
	alive(-1), suspect(-1), dead(-1), alive(api.MaxCount + 1), suspect(api.MaxCount + 1), dead(api.MaxCount + 1),
	alive(math.MinInt64), dead(math.MinInt64), alive(math.MaxInt64), dead(math.MaxInt64), {State: 3, Inc: -1}, {State: -1, Inc: api.MaxCount + 1},
}

// noNodes are no nodes of a view of n.
func noNodes(n int) []int {
	return []int{math.MinInt, math.MinInt + 1, -api.MaxNodes, -2, -1, n, n + 1, n + api.MaxNodes, 1 << 32, 1 << 40, math.MaxInt}
}

// holds fails the test, unless v holds want.
func holds(t *testing.T, what string, v *View, want ...api.Member) {
	t.Helper()
	if got := v.All(); !slices.Equal(got, want) {
		t.Errorf("%s: %v, want %v", what, got, want)
	}
	for node, m := range want {
		if got := v.State(node); got != m.State {
			t.Errorf("%s: State(%d): %d, want %d", what, node, got, m.State)
		}
	}
}

// ticks has n Ticks that make none dead.
func ticks(t *testing.T, v *View, n int) {
	t.Helper()
	for i := range n {
		if got := v.Tick(); got != 0 {
			t.Errorf("Tick %d of %d: %d", i+1, n, got)
		}
	}
}

// P16.1: New of each number, with each node as self: all are alive in their first incarnation, and nothing is open.
func TestNew(t *testing.T) {
	for n := 1; n <= api.MaxNodes; n++ {
		for self := range n {
			v := New(n, self)
			if v == nil {
				t.Fatalf("New(%d, %d): nil", n, self)
			}
			holds(t, "New", v, make([]api.Member, n)...)
			for node := range n {
				if v.Missed(node) != 0 {
					t.Errorf("New(%d, %d): %d missed", n, self, v.Missed(node))
				}
			}
		}
	}
}

// P16.1: self that is none of the nodes is a nil view, below 0 and beyond the last one.
func TestNewOfNoSelf(t *testing.T) {
	for n := 1; n <= api.MaxNodes; n++ {
		for _, self := range noNodes(n) {
			if New(n, self) != nil {
				t.Errorf("New(%d, %d) is no nil", n, self)
			}
		}
	}
}

// P16.1: below 0 there are no nodes, so that no self is one; above MaxNodes there are MaxNodes.
func TestNewOfWrongNumber(t *testing.T) {
	for _, n := range []int{math.MinInt, -api.MaxNodes, -2, -1, 0} {
		for _, self := range append(noNodes(0), 1, 7) {
			if New(n, self) != nil {
				t.Errorf("New(%d, %d) is no nil", n, self)
			}
		}
	}
	for _, n := range []int{api.MaxNodes, api.MaxNodes + 1, 99, math.MaxInt} {
		for self := range api.MaxNodes {
			holds(t, "New", New(n, self), make([]api.Member, api.MaxNodes)...)
		}
		for _, self := range noNodes(api.MaxNodes) {
			if New(n, self) != nil {
				t.Errorf("New(%d, %d) is no nil", n, self)
			}
		}
	}
}

// P16.1: State of a node that is none is Dead, all others being alive.
func TestStateOfNone(t *testing.T) {
	for n := 1; n <= api.MaxNodes; n++ {
		v := New(n, 0)
		for _, node := range noNodes(n) {
			if got := v.State(node); got != api.Dead {
				t.Errorf("State(%d) of %d: %d", node, n, got)
			}
		}
	}
}

// P16.1: Join of no members, of what changes nothing, of what is newer of one, of as many, of fewer and of more than there are.
func TestJoin(t *testing.T) {
	v := New(3, 1)
	for _, c := range []struct {
		what string
		l    []api.Member
		news bool
		want []api.Member
	}{
		{"nil", nil, false, []api.Member{alive(0), alive(0), alive(0)}},
		{"none", []api.Member{}, false, []api.Member{alive(0), alive(0), alive(0)}},
		{"the same", []api.Member{alive(0), alive(0), alive(0)}, false, []api.Member{alive(0), alive(0), alive(0)}},
		{"one", []api.Member{suspect(0)}, true, []api.Member{suspect(0), alive(0), alive(0)}},
		{"what is older of one Inc", []api.Member{alive(0)}, false, []api.Member{suspect(0), alive(0), alive(0)}},
		{"the last", []api.Member{alive(0), alive(0), dead(4)}, true, []api.Member{suspect(0), alive(0), dead(4)}},
		{"what is older", []api.Member{alive(0), alive(0), suspect(4)}, false, []api.Member{suspect(0), alive(0), dead(4)}},
		{"an older Inc", []api.Member{alive(0), alive(0), dead(3)}, false, []api.Member{suspect(0), alive(0), dead(4)}},
		{"as many, the first new", []api.Member{dead(0), alive(0), alive(4)}, true, []api.Member{dead(0), alive(0), dead(4)}},
		{"more, what is behind does not count", []api.Member{dead(0), alive(0), alive(4), dead(9), alive(9)}, false, []api.Member{dead(0), alive(0), dead(4)}},
		{"more, the last of the nodes new", []api.Member{alive(0), alive(0), alive(5), dead(9)}, true, []api.Member{dead(0), alive(0), alive(5)}},
		{"all new", []api.Member{suspect(1), dead(0), suspect(5)}, true, []api.Member{suspect(1), alive(1), suspect(5)}},
		{"the first new, the last not", []api.Member{alive(2), alive(0), alive(5)}, true, []api.Member{alive(2), alive(1), suspect(5)}},
	} {
		if got := v.Join(c.l); got != c.news {
			t.Errorf("%s: %v", c.what, got)
		}
		holds(t, c.what, v, c.want...)
	}
}

// P16.1: what is told of the node itself is refuted: it stays alive, above what was told, up to the end of counts.
func TestJoinOfItself(t *testing.T) {
	const most = api.MaxCount
	for _, c := range []struct {
		own  int64
		told api.Member
		news bool
		want int64
	}{
		{0, alive(0), false, 0}, {0, suspect(0), true, 1}, {0, dead(0), true, 1}, {0, alive(1), true, 1},
		{5, alive(4), false, 5}, {5, suspect(4), false, 5}, {5, dead(4), false, 5}, {5, alive(5), false, 5},
		{5, suspect(5), true, 6}, {5, dead(5), true, 6}, {5, alive(8), true, 8}, {5, suspect(8), true, 9}, {5, dead(8), true, 9},
		{5, dead(most - 1), true, most}, {5, dead(most), true, most}, {most, dead(most), false, most}, {most, suspect(most), false, most},
	} {
		for self := range 3 {
			v := New(3, self)
			first, l, want := make([]api.Member, 3), make([]api.Member, 3), make([]api.Member, 3)
			first[self], l[self], want[self] = alive(c.own), c.told, alive(c.want)
			v.Join(first)
			if got := v.Join(l); got != c.news {
				t.Errorf("own %d, told %v: %v", c.own, c.told, got)
			}
			holds(t, "refuted", v, want...)
			if v.Join(l) {
				t.Errorf("own %d, told %v: news a second time", c.own, c.told)
			}
			holds(t, "refuted twice", v, want...)
		}
	}
}

// P16.1: a member that may not be does not count, of another and of itself; those beside it do.
func TestJoinOfWhatMayNotBe(t *testing.T) {
	for _, m := range mayNot {
		for node := range 3 {
			v := New(3, 1)
			l := make([]api.Member, 3)
			l[node] = m
			if v.Join(l) {
				t.Errorf("%v of %d: news", m, node)
			}
			holds(t, "may not be", v, alive(0), alive(0), alive(0))
		}
		v := New(4, 1)
		if !v.Join([]api.Member{m, m, dead(3), m}) {
			t.Errorf("%v around: no news", m)
		}
		holds(t, "around", v, alive(0), alive(0), dead(3), alive(0))
		if !v.Join([]api.Member{suspect(1), dead(0), m, suspect(2), m}) {
			t.Errorf("%v between: no news", m)
		}
		holds(t, "between", v, suspect(1), alive(1), dead(3), suspect(2))
	}
}

// P16.1: each pair of what is held and what is told of another is joined as member says.
func TestJoinOfEachPair(t *testing.T) {
	var row []api.Member
	for _, inc := range incs {
		row = append(row, alive(inc), suspect(inc), dead(inc))
	}
	for _, held := range row {
		for _, told := range row {
			v := New(2, 0)
			v.Join([]api.Member{alive(0), held})
			want := member.Join(held, told)
			if got := v.Join([]api.Member{alive(0), told}); got != (want != held) {
				t.Errorf("%v told %v: %v", held, told, got)
			}
			holds(t, "pair", v, alive(0), want)
		}
	}
}

// P16.1, R2: Join neither changes nor keeps what is handed in, nor asks for what lies behind its length.
func TestJoinLeavesTheList(t *testing.T) {
	back := []api.Member{dead(2), dead(3), dead(4), dead(5)}
	v := New(4, 1)
	v.Join(back[:2])
	if !slices.Equal(back, []api.Member{dead(2), dead(3), dead(4), dead(5)}) {
		t.Errorf("the list is %v", back)
	}
	holds(t, "behind the length", v, dead(2), alive(4), alive(0), alive(0))
	clear(back)
	back[0] = alive(77)
	holds(t, "written over", v, dead(2), alive(4), alive(0), alive(0))
}

// P16.1, R2: what All tells is the caller's own, also what lies behind its length; two answers share nothing.
func TestAllIsTheCallers(t *testing.T) {
	v := New(3, 0)
	v.Join([]api.Member{alive(2), suspect(4), dead(6)})
	first, second := v.All(), v.All()
	for i := range first {
		first[i] = dead(99)
	}
	whole := first[:cap(first)]
	for i := range whole {
		whole[i] = suspect(98)
	}
	_ = append(first, dead(97), dead(97))
	if !slices.Equal(second, []api.Member{alive(2), suspect(4), dead(6)}) {
		t.Errorf("the second answer is %v", second)
	}
	holds(t, "written over", v, alive(2), suspect(4), dead(6))
	v.Suspect(0)
	v.Join([]api.Member{dead(2), dead(4)})
	if !slices.Equal(second, []api.Member{alive(2), suspect(4), dead(6)}) {
		t.Errorf("an answer changed with the view: %v", second)
	}
}

// P16.1: Suspect of one that is Alive, Suspect, Dead, of itself, in each incarnation.
func TestSuspect(t *testing.T) {
	for _, inc := range incs {
		v := New(4, 3)
		first := []api.Member{alive(inc), suspect(inc), dead(inc), alive(inc)}
		v.Join(first)
		for node, want := range []bool{true, false, false, false} {
			if got := v.Suspect(node); got != want {
				t.Errorf("Suspect(%d) at %d: %v", node, inc, got)
			}
			if node == 0 {
				first[0] = suspect(inc)
			}
			holds(t, "Suspect", v, first...)
		}
		if v.Suspect(0) {
			t.Errorf("Suspect(0) a second time at %d", inc)
		}
		holds(t, "Suspect again", v, first...)
	}
}

// P16.1: Suspect of a node that is none is false and changes nothing.
func TestSuspectOfNone(t *testing.T) {
	for n := 1; n <= api.MaxNodes; n++ {
		v := New(n, n-1)
		for _, node := range noNodes(n) {
			if v.Suspect(node) {
				t.Errorf("Suspect(%d) of %d", node, n)
			}
		}
		ticks(t, v, 2*api.SuspectAge)
		holds(t, "none", v, make([]api.Member, n)...)
	}
}

// P16.2: one that is suspected is so ahead of the SuspectAge-th Tick, dead at it, and stays so behind it; the chapter's example.
func TestTick(t *testing.T) {
	for _, inc := range incs {
		v := New(3, 0)
		v.Join([]api.Member{alive(0), alive(inc)})
		ticks(t, v, 9)
		v.Suspect(1)
		for range 5 {
			ticks(t, v, 1)
			holds(t, "ahead", v, alive(0), suspect(inc), alive(0))
		}
		if got := v.Tick(); got != 1 {
			t.Errorf("the sixth Tick: %d", got)
		}
		holds(t, "at it", v, alive(0), dead(inc), alive(0))
		ticks(t, v, 3*api.SuspectAge)
		holds(t, "behind", v, alive(0), dead(inc), alive(0))
	}
}

// P16.2: Ticks count from when the node was told to be suspected, not from when it was made.
func TestTickOfTold(t *testing.T) {
	v := New(2, 1)
	ticks(t, v, 4)
	v.Join([]api.Member{suspect(3)})
	ticks(t, v, 5)
	holds(t, "ahead", v, suspect(3), alive(0))
	if got := v.Tick(); got != 1 {
		t.Errorf("the sixth: %d", got)
	}
	holds(t, "at it", v, dead(3), alive(0))
}

// P16.2: what is told or asked of it, and changes nothing, does not hold up the Ticks.
func TestTickGoesOn(t *testing.T) {
	v := New(2, 0)
	v.Join([]api.Member{alive(0), suspect(3)})
	for range 5 {
		ticks(t, v, 1)
		for _, told := range []api.Member{alive(3), suspect(3), dead(2), suspect(0), {State: 3, Inc: 9}, alive(-1), suspect(api.MaxCount + 1)} {
			v.Join([]api.Member{dead(0), told})
		}
		v.Suspect(1)
		v.Asked(1)
		v.Heard(1)
		v.State(1)
		v.All()[1] = alive(9)
	}
	if got := v.Tick(); got != 1 || v.State(1) != api.Dead {
		t.Errorf("the sixth: %d, %v", got, v.All())
	}
}

// P16.2: a new Inc between has the Ticks count anew: suspected at once, or alive and then suspected; at each Tick of the first six.
func TestTickOfNewInc(t *testing.T) {
	for n := range api.SuspectAge {
		v := New(2, 0)
		v.Suspect(1)
		ticks(t, v, n)
		v.Join([]api.Member{alive(0), suspect(1)})
		ticks(t, v, 5)
		holds(t, "suspected anew", v, alive(0), suspect(1))
		if got := v.Tick(); got != 1 {
			t.Errorf("the sixth since it was suspected anew, behind %d: %d", n, got)
		}
		holds(t, "dead", v, alive(0), dead(1))

		w := New(2, 0)
		w.Suspect(1)
		ticks(t, w, n)
		w.Join([]api.Member{alive(0), alive(1)})
		w.Suspect(1)
		ticks(t, w, 5)
		holds(t, "alive between", w, alive(0), suspect(1))
		if got := w.Tick(); got != 1 {
			t.Errorf("the sixth since it was alive, behind %d: %d", n, got)
		}
		holds(t, "dead", w, alive(0), dead(1))
	}
}

// P16.2: Ticks that find it alive do not count, and those ahead of them are forgotten.
func TestTickWhileAlive(t *testing.T) {
	v := New(2, 0)
	v.Suspect(1)
	ticks(t, v, 5)
	v.Join([]api.Member{alive(0), alive(4)})
	ticks(t, v, 20)
	holds(t, "alive", v, alive(0), alive(4))
	v.Suspect(1)
	ticks(t, v, 5)
	if got := v.Tick(); got != 1 {
		t.Errorf("the sixth: %d", got)
	}
	v.Join([]api.Member{alive(0), suspect(5)})
	ticks(t, v, 5)
	if got := v.Tick(); got != 1 {
		t.Errorf("the sixth, after it was dead: %d", got)
	}
	holds(t, "dead again", v, alive(0), dead(5))
}

// P16.2: one that others take for dead is not made so by a Tick, nor counted.
func TestTickOfDead(t *testing.T) {
	v := New(3, 0)
	v.Suspect(1)
	ticks(t, v, 5)
	v.Join([]api.Member{alive(0), dead(0), dead(3)})
	ticks(t, v, 20)
	holds(t, "dead", v, alive(0), dead(0), dead(3))
}

// P16.2: several at one Tick are all counted; those that were suspected at different Ticks come one after the other.
func TestTickOfSeveral(t *testing.T) {
	v := New(api.MaxNodes, 2)
	for node := range api.MaxNodes {
		v.Suspect(node)
	}
	ticks(t, v, 5)
	if got := v.Tick(); got != api.MaxNodes-1 {
		t.Errorf("all others: %d", got)
	}
	holds(t, "all others", v, dead(0), dead(0), alive(0), dead(0), dead(0), dead(0), dead(0), dead(0))

	v = New(5, 4)
	for i := range 12 {
		switch i {
		case 0:
			v.Suspect(3)
		case 2:
			v.Suspect(0)
		case 3:
			v.Join([]api.Member{alive(0), suspect(7)})
		}
		want := map[int]int{5: 1, 7: 1, 8: 1}[i]
		if got := v.Tick(); got != want {
			t.Errorf("Tick %d: %d, want %d", i, got, want)
		}
	}
	holds(t, "one after the other", v, dead(0), dead(7), alive(0), dead(0), alive(0))
}

// P16.2: Asked, Heard and Missed, once and often, of each node by itself; they leave what is held as it is.
func TestMissed(t *testing.T) {
	v := New(4, 2)
	v.Join([]api.Member{alive(1), suspect(2), alive(0), dead(3)})
	want := [4]int{}
	for i := range 200 {
		node := i * i % 4
		if i%7 == 0 {
			node = 3
		}
		v.Asked(node)
		want[node]++
		for other, n := range want {
			if other != 2 && v.Missed(other) != n {
				t.Fatalf("Missed(%d) behind %d: %d, want %d", other, i, v.Missed(other), n)
			}
		}
	}
	v.Heard(0)
	if v.Missed(0) != 0 || v.Missed(1) != want[1] || v.Missed(3) != want[3] {
		t.Errorf("heard 0: %d, %d, %d", v.Missed(0), v.Missed(1), v.Missed(3))
	}
	v.Heard(0)
	v.Asked(0)
	if v.Missed(0) != 1 || v.Missed(0) != 1 {
		t.Errorf("asked anew: %d", v.Missed(0))
	}
	v.Heard(3)
	if v.Missed(0) != 1 || v.Missed(1) != want[1] || v.Missed(3) != 0 {
		t.Errorf("heard 3: %d, %d, %d", v.Missed(0), v.Missed(1), v.Missed(3))
	}
	holds(t, "asked", v, alive(1), suspect(2), alive(0), dead(3))
}

// P16.2: what is told of a node, Ticks, and that it is suspected, leave its open questions as they are.
func TestMissedStays(t *testing.T) {
	v := New(2, 0)
	v.Asked(1)
	v.Asked(1)
	v.Suspect(1)
	for range 8 {
		v.Tick()
	}
	v.Join([]api.Member{alive(0), alive(9)})
	if v.Missed(1) != 2 {
		t.Errorf("Missed: %d", v.Missed(1))
	}
}

// P16.2: of itself, and of a node that is none, none is missed ever; and the others do not notice.
func TestMissedOfNone(t *testing.T) {
	for n := 1; n <= api.MaxNodes; n++ {
		for self := range n {
			v := New(n, self)
			for node := range n {
				v.Asked(node)
			}
			for _, node := range append(noNodes(n), self) {
				v.Asked(node)
				v.Asked(node)
				if got := v.Missed(node); got != 0 {
					t.Errorf("Missed(%d) of %d: %d", node, n, got)
				}
				v.Heard(node)
				if got := v.Missed(node); got != 0 {
					t.Errorf("Missed(%d) of %d, heard: %d", node, n, got)
				}
			}
			for node := range n {
				if got := v.Missed(node); node != self && got != 1 {
					t.Errorf("Missed(%d) of %d: %d", node, n, got)
				}
			}
		}
	}
}

// R3: a nil view tells zero values, and Dead of State.
func TestNil(t *testing.T) {
	var v *View
	for _, node := range append(noNodes(8), 0, 1, 7) {
		v.Asked(node)
		v.Heard(node)
		if v.State(node) != api.Dead || v.Suspect(node) || v.Missed(node) != 0 {
			t.Errorf("nil view, node %d: %d, %v, %d", node, v.State(node), v.Suspect(node), v.Missed(node))
		}
	}
	if v.Join([]api.Member{dead(3), alive(4)}) || v.Join(nil) || v.Tick() != 0 || v.All() != nil {
		t.Error("nil view is not still")
	}
}

// R3: a view that New did not make has no nodes, and nothing comes of it.
func TestZero(t *testing.T) {
	v := &View{}
	v.Asked(0)
	v.Heard(0)
	if v.Join([]api.Member{dead(3), alive(4)}) || v.Suspect(1) || v.Tick() != 0 || len(v.All()) != 0 || v.Missed(0) != 0 || v.State(0) != api.Dead {
		t.Error("a view without nodes is not still")
	}
}

// R2: two views keep to themselves.
func TestTwoViews(t *testing.T) {
	a, b := New(2, 0), New(2, 0)
	a.Suspect(1)
	a.Asked(1)
	ticks(t, a, 5)
	ticks(t, b, 5)
	b.Suspect(1)
	if a.Tick() != 1 || b.Tick() != 0 || a.Missed(1) != 1 || b.Missed(1) != 0 {
		t.Error("views share what they hold")
	}
	holds(t, "one", a, alive(0), dead(0))
	holds(t, "the other", b, alive(0), suspect(0))
}

// plain is a view by the chapter's words: it keeps at which Tick each node was first found suspected as it is.
type plain struct {
	self  int
	held  []api.Member
	found []map[int64]int
	open  []int
}

func newPlain(n, self int) *plain {
	p := &plain{self: self, held: make([]api.Member, n), found: make([]map[int64]int, n), open: make([]int, n)}
	for i := range p.found {
		p.found[i] = map[int64]int{}
	}
	return p
}

func (p *plain) has(node int) bool { return 0 <= node && node < len(p.held) }

func (p *plain) join(l []api.Member) bool {
	first := slices.Clone(p.held)
	for node := 0; node < len(l) && node < len(p.held); node++ {
		switch {
		case !member.May(l[node]):
		case node == p.self:
			p.held[node], _ = member.Refute(p.held[node], l[node])
		default:
			p.held[node] = member.Join(p.held[node], l[node])
		}
	}
	return !slices.Equal(first, p.held)
}

func (p *plain) suspect(node int) bool {
	if !p.has(node) || node == p.self || p.held[node].State != api.Alive {
		return false
	}
	p.held[node].State = api.Suspect
	return true
}

func (p *plain) tick() int {
	n := 0
	for node, m := range p.held {
		if m.State != api.Suspect {
			continue
		}
		p.found[node][m.Inc]++
		if p.found[node][m.Inc] >= api.SuspectAge {
			p.held[node].State = api.Dead
			n++
		}
	}
	return n
}

func (p *plain) ask(node, open int) {
	if p.has(node) && node != p.self {
		p.open[node] = open
	}
}

func (p *plain) missed(node int) int {
	if !p.has(node) {
		return 0
	}
	return p.open[node]
}

// randomMember is one that may be near, at the end of counts, or not at all.
func randomMember(random *rand.Rand, near int64) api.Member {
	switch random.Intn(12) {
	case 0:
		return mayNot[random.Intn(len(mayNot))]
	case 1:
		return api.Member{State: random.Intn(3), Inc: max(0, near-1)}
	case 2:
		return api.Member{State: random.Intn(3), Inc: min(near+1, api.MaxCount)}
	}
	return api.Member{State: random.Intn(2), Inc: near}
}

// randomList tells something of some nodes, at times of more than there are.
func randomList(random *rand.Rand, held []api.Member) []api.Member {
	l := make([]api.Member, random.Intn(len(held)+3))
	for i := range l {
		if i < len(held) && random.Intn(3) == 0 {
			l[i] = randomMember(random, held[i].Inc)
		} else if i >= len(held) {
			l[i] = randomMember(random, 1)
		}
	}
	return l
}

// P16.1 to P16.3: long runs of calls go as the chapter's words do; of others it only grows, and a node is always alive to itself.
func TestRuns(t *testing.T) {
	random := rand.New(rand.NewSource(16))
	deaths := 0
	for range 600 {
		n := 1 + random.Intn(api.MaxNodes)
		self := random.Intn(n)
		v, p := New(n, self), newPlain(n, self)
		if random.Intn(8) == 0 {
			high := slices.Repeat([]api.Member{alive(api.MaxCount - 2)}, n)
			v.Join(high)
			p.join(high)
		}
		for step := range 120 {
			first, node := v.All(), random.Intn(n+2)-1
			var got, want any
			switch random.Intn(8) {
			case 0:
				l := randomList(random, first)
				got, want = v.Join(l), p.join(l)
			case 1:
				got, want = v.Suspect(node), p.suspect(node)
			case 2:
				v.Asked(node)
				p.ask(node, p.missed(node)+1)
			case 3:
				v.Heard(node)
				p.ask(node, 0)
			default:
				made := v.Tick()
				got, want = made, p.tick()
				deaths += made
			}
			if got != want || !slices.Equal(v.All(), p.held) || v.Missed(node) != p.missed(node) {
				t.Fatalf("step %d: %v, %v; want %v, %v", step, got, v.All(), want, p.held)
			}
			grows(t, self, first, v)
		}
	}
	if deaths < 200 {
		t.Errorf("only %d deaths in all runs", deaths)
	}
}

// grows fails the test, unless each of what v holds may be and is above what it was, and self is alive.
func grows(t *testing.T, self int, first []api.Member, v *View) {
	t.Helper()
	for node, m := range v.All() {
		if !member.May(m) || !member.Leq(first[node], m) {
			t.Fatalf("node %d: from %v to %v", node, first[node], m)
		}
		if node == self && m.State != api.Alive {
			t.Fatalf("node %d is %v to itself", node, m)
		}
	}
}

// P16.3: two that tell one another all they hold come to the same of all others, each alive to both.
func TestTwoGrowAlike(t *testing.T) {
	a, b := New(4, 0), New(4, 1)
	a.Suspect(1)
	b.Join([]api.Member{dead(0), alive(0), suspect(6), alive(2)})
	a.Suspect(3)
	for range 3 {
		b.Join(a.All())
		a.Join(b.All())
	}
	want := []api.Member{alive(1), alive(1), suspect(6), alive(2)}
	holds(t, "one", a, want...)
	holds(t, "the other", b, want...)
	if a.Join(b.All()) || b.Join(a.All()) {
		t.Error("there is still news")
	}
}
