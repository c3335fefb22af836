package coord

import (
	"fmt"
	"math"
	"math/rand"
	"slices"
	"strings"
	"testing"

	"tattler/api"
	"tattler/sibs"
)

// strange are nodes that no cluster has.
var strange = []int{math.MinInt, math.MinInt + 1, -1 << 32, -9, -8, -2, -1, 8, 9, 16, 64, 256, 1 << 32, 1<<32 + 1, math.MaxInt - 1, math.MaxInt}

// val is a value of a dot; "!" stands for one that is dead.
func val(node int, n int64, data string) api.Value {
	if data == "!" {
		return api.Value{Dot: api.Dot{Node: node, N: n}, Dead: true}
	}
	return api.Value{Dot: api.Dot{Node: node, N: n}, Data: []byte(data)}
}

// known is sibs.
func known(seen api.Vector, values ...api.Value) api.Sibs {
	return api.Sibs{Seen: seen, Values: values}
}

// entry is one of a key.
func entry(key string, s api.Sibs) api.Entry {
	return api.Entry{Key: key, Sibs: s}
}

// x, y, both, dead and none are what is written and read in many tests.
func x() api.Sibs    { return known(api.Vector{1}, val(0, 1, "x")) }
func y() api.Sibs    { return known(api.Vector{0, 1}, val(1, 1, "y")) }
func both() api.Sibs { return known(api.Vector{1, 1}, val(0, 1, "x"), val(1, 1, "y")) }
func dead() api.Sibs { return known(api.Vector{2}, val(0, 2, "!")) }
func none() api.Sibs { return api.Sibs{} }

// wrongSibs are those that may not be.
func wrongSibs() []api.Sibs {
	many := api.Sibs{Seen: api.Vector{99}}
	for i := range api.MaxValues + 1 {
		many.Values = append(many.Values, val(0, int64(i+1), "x"))
	}
	loud := val(0, 1, "!")
	loud.Data = []byte("x")
	return []api.Sibs{
		known(api.Vector{-1}),
		known(api.Vector{7: api.MaxCount + 1}),
		known(api.Vector{}, val(0, 1, "x")),
		known(api.Vector{1}, val(0, 0, "x")),
		known(api.Vector{1}, val(-1, 1, "x")),
		known(api.Vector{1}, val(8, 1, "x")),
		known(api.Vector{1, 1}, val(1, 1, "y"), val(0, 1, "x")),
		known(api.Vector{1}, val(0, 1, "x"), val(0, 1, "x")),
		known(api.Vector{1}, val(0, 1, strings.Repeat("x", api.MaxData+1))),
		known(api.Vector{1}, loud),
		many,
	}
}

// wrongKeys are those that may not be.
func wrongKeys() []string {
	return []string{"", strings.Repeat("k", api.MaxKey+1), strings.Repeat("\x00", 5000)}
}

// text is sibs' text.
func text(s api.Sibs) string {
	out := fmt.Sprint(s.Seen)
	for _, v := range s.Values {
		out += fmt.Sprintf(" %d.%d %q", v.Dot.Node, v.Dot.N, v.Data)
		if v.Dead {
			out += "!"
		}
	}
	return out
}

// show is answers as a text.
func show(list []api.Answer) string {
	out := ""
	for _, a := range list {
		out += fmt.Sprint(a.Op, ":", int(a.Err), " ", text(a.Sibs), "; ")
	}
	return out
}

// okay is the text of an answer that succeeds; late that of one that does not.
func okay(op int64, s api.Sibs) string { return fmt.Sprint(op, ":0 ", text(s), "; ") }
func late(op int64) string             { return fmt.Sprint(op, ":9 ", text(none()), "; ") }

// answers holds what c answers against a text.
func answers(t *testing.T, c *Coord, want string) {
	t.Helper()
	if got := show(c.Answers()); got != want {
		t.Errorf("answers are %s, not %s", got, want)
	}
	if l := c.Answers(); len(l) != 0 {
		t.Errorf("asked again it tells %s", show(l))
	}
}

// underWay holds what c tells of an operation against what it should be.
func underWay(t *testing.T, c *Coord, op int64, key string, s api.Sibs) {
	t.Helper()
	if k, got, ok := c.Key(op); k != key || !ok || text(got) != text(s) {
		t.Errorf("Key(%d) is %q %s %v", op, k, text(got), ok)
	}
}

// gone holds that an operation is none that is under way, for every call.
func gone(t *testing.T, c *Coord, op int64) {
	t.Helper()
	if k, s, ok := c.Key(op); k != "" || ok || text(s) != text(none()) {
		t.Errorf("Key(%d) is %q %s %v", op, k, text(s), ok)
	}
	for node := -1; node <= api.MaxNodes; node++ {
		if c.Ack(op, node) {
			t.Errorf("Ack(%d, %d)", op, node)
		}
		for _, key := range []string{"", "k"} {
			if l, ok := c.Got(op, node, entry(key, y())); l != nil || ok {
				t.Errorf("Got(%d, %d) is %v %v", op, node, l, ok)
			}
		}
	}
}

// begun begins an operation, which must come to be of that number.
func begun(t *testing.T, c *Coord, op int64, read bool, self, need int, key string, s api.Sibs) {
	t.Helper()
	begin := c.Write
	if read {
		begin = c.Read
	}
	if n, err := begin(self, need, key, s); n != op || err != api.OK {
		t.Fatalf("operation %d is %d, %d", op, n, err)
	}
}

// P22.1, P22.2: the chapter's examples.
func TestExamples(t *testing.T) {
	c := New(3)
	begun(t, c, 1, false, 0, 2, "k", x())
	if !c.Ack(1, 1) {
		t.Error("Ack")
	}
	answers(t, c, okay(1, x()))
	begun(t, c, 2, false, 0, 2, "k", x())
	if c.Tick() != 0 || c.Tick() != 0 || c.Tick() != 1 {
		t.Error("Tick")
	}
	answers(t, c, late(2))
}

// P22.1: an operation that needs one is done at once, whatever else; one that needs more is not.
func TestNeed(t *testing.T) {
	for _, read := range []bool{false, true} {
		for _, need := range []int{math.MinInt, -1 << 32, -2, -1, 0, 1} {
			c := New(3)
			begun(t, c, 1, read, 2, need, "k", both())
			if c.Len() != 0 {
				t.Error(need, c.Len())
			}
			gone(t, c, 1)
			answers(t, c, okay(1, both()))
			for range 5 {
				if c.Tick() != 0 {
					t.Error(need)
				}
			}
			answers(t, c, "")
		}
		for _, need := range []int{2, 3, 7, 8, 9, 10, 1 << 32, 1<<32 + 2, math.MaxInt - 1, math.MaxInt} {
			c := New(3)
			begun(t, c, 1, read, 2, need, "k", x())
			done := 0
			for i := range api.MaxNodes {
				node := (i + 5) % api.MaxNodes
				ok := c.Ack(1, node)
				if read {
					_, ok = c.Got(1, node, entry("k", x()))
				}
				if ok {
					done++
				}
			}
			want, left := 0, 1
			if need <= api.MaxNodes {
				want, left = 1, 0
			}
			if done != want || c.Len() != left {
				t.Error(need, done, c.Len())
			}
			answers(t, c, strings.Repeat(okay(1, x()), want))
		}
	}
}

// P22.1: the node that makes up the need is the one that is told true.
func TestEnough(t *testing.T) {
	for _, read := range []bool{false, true} {
		for need := 2; need <= api.MaxNodes; need++ {
			c := New(1)
			begun(t, c, 1, read, api.MaxNodes-1, need, "k", x())
			for node := range need - 1 {
				if c.Len() != 1 {
					t.Error(need, node)
				}
				answers(t, c, "")
				ok := false
				if read {
					_, ok = c.Got(1, node, entry("k", x()))
				} else {
					ok = c.Ack(1, node)
				}
				if ok != (node == need-2) {
					t.Error(need, node, ok)
				}
			}
			gone(t, c, 1)
			answers(t, c, okay(1, x()))
		}
	}
}

// P22.1: what does not count for a Write.
func TestAckOfNothing(t *testing.T) {
	c := New(3)
	begun(t, c, 1, false, 0, 3, "k", x())
	begun(t, c, 2, true, 0, 2, "k", x())
	for range 2 {
		for _, op := range []int64{math.MinInt64, -2, -1, 0, 2, 3, 1<<32 + 1, math.MaxInt64} {
			for node := range api.MaxNodes {
				if c.Ack(op, node) {
					t.Error(op, node)
				}
			}
		}
		for _, node := range append([]int{0}, strange...) {
			if c.Ack(1, node) {
				t.Error(node)
			}
		}
		if l, ok := c.Got(1, 1, entry("k", y())); l != nil || ok {
			t.Error("Got of a Write")
		}
		underWay(t, c, 1, "k", x())
		underWay(t, c, 2, "k", x())
		answers(t, c, "")
	}
	if c.Ack(1, 7) || c.Ack(1, 7) || c.Len() != 2 || !c.Ack(1, 1) || c.Len() != 1 {
		t.Error("Ack")
	}
	gone(t, c, 1)
	answers(t, c, okay(1, x()))
	// The Acks of operation 2 were of no Read.
	if l, ok := c.Got(2, 1, entry("k", x())); l != nil || !ok {
		t.Error(l, ok)
	}
	answers(t, c, okay(2, x()))
}

// P22.1: what does not count for a Read.
func TestGotOfNothing(t *testing.T) {
	c := New(3)
	begun(t, c, 1, true, 0, 3, "k", x())
	begun(t, c, 2, false, 0, 2, "k", x())
	no := func(op int64, node int, e api.Entry) {
		t.Helper()
		if l, ok := c.Got(op, node, e); l != nil || ok {
			t.Error(op, node, l, ok)
		}
	}
	for range 2 {
		for _, op := range []int64{math.MinInt64, -2, -1, 0, 2, 3, 1<<32 + 1, math.MaxInt64} {
			for node := range api.MaxNodes {
				no(op, node, entry("k", y()))
			}
		}
		for _, node := range append([]int{0}, strange...) {
			no(1, node, entry("k", y()))
		}
		for _, key := range append([]string{"q", "K", "kk", "k\x00"}, wrongKeys()...) {
			no(1, 1, entry(key, y()))
		}
		for _, s := range wrongSibs() {
			no(1, 1, entry("k", s))
		}
		if c.Ack(1, 1) {
			t.Error("Ack of a Read")
		}
		underWay(t, c, 1, "k", x())
		underWay(t, c, 2, "k", x())
		answers(t, c, "")
	}
	no(1, 7, entry("k", x()))
	no(1, 7, entry("k", y()))
	underWay(t, c, 1, "k", x())
	if l, ok := c.Got(1, 1, entry("k", y())); !ok || !slices.Equal(l, []int{0, 1, 7}) {
		t.Error(l, ok)
	}
	gone(t, c, 1)
	answers(t, c, okay(1, both()))
	if !c.Ack(2, 1) {
		t.Error("Ack")
	}
	answers(t, c, okay(2, x()))
}

// P22.1: what a Read comes to, and which nodes are told.
func TestReadRows(t *testing.T) {
	type told struct {
		node int
		s    api.Sibs
	}
	for i, row := range []struct {
		self  int
		s     api.Sibs
		told  []told
		want  api.Sibs
		nodes []int
	}{
		{0, none(), []told{{1, none()}}, none(), nil},
		{0, x(), []told{{1, x()}}, x(), nil},
		{0, x(), []told{{7, x()}, {3, x()}, {5, x()}}, x(), nil},
		{0, none(), []told{{1, x()}}, x(), []int{0}},
		{0, x(), []told{{1, none()}}, x(), []int{1}},
		{7, x(), []told{{0, none()}}, x(), []int{0}},
		{7, none(), []told{{0, x()}}, x(), []int{7}},
		{0, x(), []told{{1, y()}}, both(), []int{0, 1}},
		{4, x(), []told{{7, y()}, {0, y()}}, both(), []int{0, 4, 7}},
		{4, x(), []told{{7, both()}, {0, y()}}, both(), []int{0, 4}},
		{4, both(), []told{{7, y()}, {0, x()}, {1, none()}}, both(), []int{0, 1, 7}},
		{0, x(), []told{{1, dead()}}, dead(), []int{0}},
		{0, dead(), []told{{1, x()}}, dead(), []int{1}},
		{0, x(), []told{{1, known(api.Vector{1})}}, known(api.Vector{1}), []int{0}},
		{0, x(), []told{{1, known(api.Vector{2}, val(0, 1, "x"))}}, known(api.Vector{2}, val(0, 1, "x")), []int{0}},
		{0, x(), []told{{1, known(api.Vector{1}, val(0, 1, "w"))}}, known(api.Vector{1}, val(0, 1, "w")), []int{0}},
		{0, x(), []told{{1, known(api.Vector{1}, val(0, 1, ""))}}, known(api.Vector{1}, val(0, 1, "")), []int{0}},
		{0, known(api.Vector{1}, val(0, 1, "")), []told{{1, known(api.Vector{1}, api.Value{Dot: api.Dot{N: 1}})}}, known(api.Vector{1}, val(0, 1, "")), nil},
		{1, x(), []told{{7, none()}, {6, y()}, {5, x()}, {4, both()}, {3, y()}, {2, none()}, {0, both()}}, both(), []int{1, 2, 3, 5, 6, 7}},
	} {
		c := New(3)
		begun(t, c, 1, true, row.self, len(row.told)+1, "k", row.s)
		underWay(t, c, 1, "k", row.s)
		all := row.s
		for j, x := range row.told {
			l, ok := c.Got(1, x.node, entry("k", x.s))
			if ok != (j == len(row.told)-1) || ok && !slices.Equal(l, row.nodes) || !ok && l != nil {
				t.Error(i, j, l, ok)
			}
			if all = sibs.Join(all, x.s); !ok {
				underWay(t, c, 1, "k", all)
			}
		}
		if text(all) != text(row.want) {
			t.Error(i, text(all))
		}
		gone(t, c, 1)
		answers(t, c, okay(1, row.want))
	}
}

// full is sibs of as many values as may be, all of one node, which has seen its own alone.
func full(node, from int) api.Sibs {
	s := api.Sibs{}
	for i := range api.MaxValues {
		s.Values = append(s.Values, val(node, int64(from+i), "v"))
	}
	s.Seen[node] = int64(from + api.MaxValues - 1)
	return s
}

// P22.1: where there are too many values to join, the order in which they came tells which stand.
func TestOrder(t *testing.T) {
	a, b := full(0, 1), known(api.Vector{0, 1}, val(1, 1, "b"))
	cut := known(api.Vector{20, 0, 1}, val(2, 1, "c"))
	for i, row := range []struct{ one, two, three api.Sibs }{{a, b, cut}, {b, a, cut}, {a, cut, b}, {cut, b, a}, {b, cut, a}, {cut, a, b}} {
		c := New(3)
		begun(t, c, 1, true, 5, 3, "k", row.one)
		c.Got(1, 7, entry("k", row.two))
		underWay(t, c, 1, "k", sibs.Join(row.one, row.two))
		l, ok := c.Got(1, 0, entry("k", row.three))
		want := sibs.Join(sibs.Join(row.one, row.two), row.three)
		if !ok || !slices.Equal(l, []int{0, 5, 7}) {
			t.Error(i, l, ok)
		}
		answers(t, c, okay(1, want))
	}
	if one, two := sibs.Join(sibs.Join(a, b), cut), sibs.Join(sibs.Join(b, cut), a); sibs.Same(one, two) {
		t.Error("the order is not to be seen in this")
	}
}

// P22.1, R3: a self that is no node has not answered; what it has is read for all that.
func TestStrangeSelf(t *testing.T) {
	for _, self := range strange {
		c := New(3)
		begun(t, c, 1, false, self, 2, "k", x())
		begun(t, c, 2, true, self, 2, "k", x())
		begun(t, c, 3, true, self, 1, "k", x())
		answers(t, c, okay(3, x()))
		underWay(t, c, 2, "k", x())
		if c.Ack(1, self) || c.Ack(1, 0) || !c.Ack(1, 7) {
			t.Error(self)
		}
		answers(t, c, okay(1, x()))
		if l, ok := c.Got(2, self, entry("k", y())); l != nil || ok {
			t.Error(self, l, ok)
		}
		if l, ok := c.Got(2, 0, entry("k", y())); l != nil || ok {
			t.Error(self, l, ok)
		}
		if l, ok := c.Got(2, 7, entry("k", both())); !slices.Equal(l, []int{0}) || !ok {
			t.Error(self, l, ok)
		}
		answers(t, c, okay(2, both()))
	}
}

// P22.1: a key or sibs that may not be begin nothing, and take no number.
func TestWrongArguments(t *testing.T) {
	c := New(3)
	no := func(need int, key string, s api.Sibs) {
		t.Helper()
		if n, err := c.Write(0, need, key, s); n != 0 || err != api.ErrArg {
			t.Error(n, err)
		}
		if n, err := c.Read(0, need, key, s); n != 0 || err != api.ErrArg {
			t.Error(n, err)
		}
	}
	for _, need := range []int{-1, 0, 1, 2, 9} {
		for _, key := range wrongKeys() {
			no(need, key, x())
			no(need, key, none())
		}
		for _, s := range wrongSibs() {
			no(need, "k", s)
			no(need, "", s)
		}
	}
	if c.Len() != 0 || c.Tick() != 0 {
		t.Error(c.Len())
	}
	answers(t, c, "")
	long := strings.Repeat("\xff", api.MaxKey)
	most := full(7, api.MaxCount-api.MaxValues+1)
	most.Values[3].Data = []byte(strings.Repeat("d", api.MaxData))
	begun(t, c, 1, false, 0, 2, "\x00", none())
	begun(t, c, 2, true, 0, 2, long, most)
	underWay(t, c, 1, "\x00", none())
	underWay(t, c, 2, long, most)
}

// P22.1: MaxOps under way and no more; behind an answer there is room again.
func TestFull(t *testing.T) {
	c := New(5)
	for i := range api.MaxOps {
		begun(t, c, int64(i+1), i%2 == 0, 0, 2, "k", x())
		if c.Len() != i+1 {
			t.Error(c.Len())
		}
	}
	no := func() {
		t.Helper()
		for _, need := range []int{0, 1, 2} {
			for _, key := range []string{"k", ""} {
				for _, s := range []api.Sibs{x(), wrongSibs()[0]} {
					if n, err := c.Write(0, need, key, s); n != 0 || err != api.ErrFull {
						t.Error(n, err)
					}
					if n, err := c.Read(0, need, key, s); n != 0 || err != api.ErrFull {
						t.Error(n, err)
					}
				}
			}
		}
		if c.Len() != api.MaxOps {
			t.Error(c.Len())
		}
		answers(t, c, "")
	}
	no()
	c.Tick()
	if !c.Ack(2, 1) {
		t.Error("Ack")
	}
	// An operation that is done has made room, whether it was asked for its answer or not.
	begun(t, c, 65, false, 0, 2, "k", y())
	if l, ok := c.Got(1, 1, entry("k", x())); l != nil || !ok {
		t.Error(l, ok)
	}
	begun(t, c, 66, true, 0, 1, "q", y())
	begun(t, c, 67, true, 0, 2, "q", y())
	answers(t, c, okay(2, x())+okay(1, x())+okay(66, y()))
	no()
	want := ""
	for op := int64(3); op <= api.MaxOps; op++ {
		want += late(op)
	}
	if c.Tick() != 0 || c.Tick() != 0 || c.Tick() != 0 || c.Tick() != api.MaxOps-2 || c.Len() != 2 {
		t.Error(c.Len())
	}
	answers(t, c, want)
	begun(t, c, 68, false, 0, 2, "k", x())
	if c.Tick() != 2 || c.Len() != 1 {
		t.Error(c.Len())
	}
	answers(t, c, late(65)+late(67))
}

// P22.1, P22.2: an operation has an answer at the Tick of wait, and none ahead of it.
func TestWait(t *testing.T) {
	for _, row := range []struct{ wait, ticks int }{{math.MinInt, 1}, {-1 << 32, 1}, {-1, 1}, {0, 1}, {1, 1}, {2, 2}, {3, 3}, {17, 17}, {300, 300}} {
		for _, read := range []bool{false, true} {
			c := New(row.wait)
			for range 3 {
				if c.Tick() != 0 {
					t.Error(row.wait)
				}
			}
			begun(t, c, 1, read, 0, 2, "k", x())
			begun(t, c, 2, read, 0, 2, "k", x())
			for i := range row.ticks - 1 {
				if c.Tick() != 0 || c.Len() != 2 {
					t.Error(row.wait, i, c.Len())
				}
				underWay(t, c, 1, "k", x())
				answers(t, c, "")
			}
			// Just ahead of its last Tick one may still be done.
			ok := c.Ack(1, 1)
			if read {
				_, ok = c.Got(1, 1, entry("k", x()))
			}
			if !ok || c.Tick() != 1 || c.Len() != 0 {
				t.Error(row.wait, ok, c.Len())
			}
			answers(t, c, okay(1, x())+late(2))
			gone(t, c, 1)
			gone(t, c, 2)
			if c.Tick() != 0 {
				t.Error(row.wait)
			}
			answers(t, c, "")
		}
	}
	for _, wait := range []int{1 << 32, math.MaxInt - 1, math.MaxInt} {
		c := New(wait)
		begun(t, c, 1, false, 0, 2, "k", x())
		for range 5000 {
			if c.Tick() != 0 {
				t.Fatal(wait)
			}
		}
		underWay(t, c, 1, "k", x())
	}
}

// P22.2: those that time out at one Tick stand by their numbers, behind those that were done ahead of it.
func TestOneTick(t *testing.T) {
	for range 20 {
		c := New(2)
		for op := range int64(40) {
			begun(t, c, op+1, op%3 == 0, 0, 2, "k", x())
		}
		want := ""
		for _, op := range []int64{39, 3, 20, 9, 12} {
			if !c.Ack(op, 7) {
				t.Error(op)
			}
			want += okay(op, x())
		}
		c.Tick()
		begun(t, c, 41, false, 0, 2, "k", x())
		if c.Tick() != 35 || c.Len() != 1 {
			t.Error(c.Len())
		}
		for op := int64(1); op <= 40; op++ {
			if !slices.Contains([]int64{39, 3, 20, 9, 12}, op) {
				want += late(op)
			}
		}
		if c.Tick() != 1 {
			t.Error("41")
		}
		answers(t, c, want+late(41))
	}
}

// write over all that a list of values has, and what lies behind it.
func spoil(s api.Sibs) {
	for i := range s.Values {
		for j := range s.Values[i].Data {
			s.Values[i].Data[j] ^= 0x55
		}
		s.Values[i].Dot.N += 77
	}
	rest := s.Values[len(s.Values):cap(s.Values)]
	for i := range rest {
		rest[i] = val(7, 7, "?")
	}
}

// roomy is x, with room behind its lists.
func roomy() api.Sibs {
	s := api.Sibs{Seen: api.Vector{1}, Values: make([]api.Value, 1, 4)}
	s.Values[0] = api.Value{Dot: api.Dot{N: 1}, Data: append(make([]byte, 0, 8), 'x')}
	s.Values[:4][3].Data = []byte("behind")
	return s
}

// R2: nothing that is handed in is kept or changed, nothing that is told is kept.
func TestMemory(t *testing.T) {
	c := New(3)
	list := []api.Sibs{roomy(), roomy(), roomy(), roomy(), roomy(), roomy()}
	begun(t, c, 1, false, 0, 2, "k", list[0])
	begun(t, c, 2, true, 0, 3, "k", list[1])
	begun(t, c, 3, true, 0, 1, "k", list[2])
	begun(t, c, 4, false, 0, 1, "k", list[3])
	c.Got(2, 1, entry("k", list[4]))
	for _, s := range list {
		if text(s) != text(x()) || string(s.Values[0].Data[:2]) != "x\x00" || string(s.Values[:4][3].Data) != "behind" || len(s.Values[:4][2].Data) != 0 {
			t.Error("what was handed in is changed")
		}
		spoil(s)
	}
	for range 2 {
		for op := int64(1); op <= 2; op++ {
			underWay(t, c, op, "k", x())
			_, s, _ := c.Key(op)
			spoil(s)
		}
	}
	first := c.Answers()
	if show(first) != okay(3, x())+okay(4, x()) {
		t.Error(show(first))
	}
	spoil(first[0].Sibs)
	if show(first[1:]) != okay(4, x()) {
		t.Error(show(first))
	}
	clear(first)
	last := roomy()
	l, ok := c.Got(2, 2, entry("k", last))
	if !ok || l != nil || !c.Ack(1, 1) {
		t.Error(l, ok)
	}
	spoil(last)
	rest := first[:cap(first)]
	for i := range rest {
		rest[i] = api.Answer{Op: 99}
	}
	answers(t, c, okay(2, x())+okay(1, x()))
}

// R2: the nodes that are told are new memory.
func TestNodesMemory(t *testing.T) {
	c := New(3)
	var lists [][]int
	for op := int64(1); op <= 3; op++ {
		begun(t, c, op, true, 0, 2, "k", x())
		l, _ := c.Got(op, 1, entry("k", y()))
		lists = append(lists, l)
	}
	lists[0][0] = 9
	_ = append(lists[1], 9)
	lists[1][1] = 9
	if !slices.Equal(lists[2], []int{0, 1}) {
		t.Error(lists)
	}
}

// P22.1: Coords keep to themselves.
func TestApart(t *testing.T) {
	a, b := New(3), New(3)
	begun(t, a, 1, false, 0, 2, "k", x())
	if b.Len() != 0 || b.Ack(1, 1) || b.Tick() != 0 {
		t.Error("one is told what the other was")
	}
	begun(t, b, 1, true, 0, 2, "q", y())
	underWay(t, a, 1, "k", x())
	underWay(t, b, 1, "q", y())
}

// R3: a nil Coord.
func TestNil(t *testing.T) {
	var c *Coord
	if n, err := c.Write(0, 1, "k", x()); n != 0 || err != api.ErrArg {
		t.Error(n, err)
	}
	if n, err := c.Read(0, 1, "k", x()); n != 0 || err != api.ErrArg {
		t.Error(n, err)
	}
	if n, err := c.Write(0, 1, "", wrongSibs()[0]); n != 0 || err != api.ErrArg {
		t.Error(n, err)
	}
	gone(t, c, 0)
	gone(t, c, 1)
	if c.Tick() != 0 || c.Answers() != nil || c.Len() != 0 {
		t.Error("nil")
	}
}

// R3: one that New did not make waits a tick.
func TestPlainCoord(t *testing.T) {
	c := &Coord{}
	gone(t, c, 1)
	if c.Tick() != 0 || c.Len() != 0 || c.Answers() != nil {
		t.Error("none")
	}
	begun(t, c, 1, false, 0, 2, "k", x())
	begun(t, c, 2, true, 0, 2, "k", x())
	if !c.Ack(1, 1) || c.Tick() != 1 {
		t.Error("Tick")
	}
	answers(t, c, okay(1, x())+late(2))
}

// model is a Coord by the chapter's words: all operations that ever were, gone through each time.
type model struct {
	wait int
	ops  []*modelOp
	said []api.Answer
}

// modelOp is one of them, with every answer that came.
type modelOp struct {
	num   int64
	read  bool
	need  int
	key   string
	s     api.Sibs
	nodes []int
	told  []api.Sibs
	age   int
	done  bool
	times int
}

func newModel(wait int) *model {
	return &model{wait: max(wait, 1)}
}

// len counts those that are under way.
func (m *model) len() int {
	n := 0
	for _, o := range m.ops {
		if !o.done {
			n++
		}
	}
	return n
}

// find is one that is under way.
func (m *model) find(op int64) *modelOp {
	if op < 1 || op > int64(len(m.ops)) || m.ops[op-1].done {
		return nil
	}
	return m.ops[op-1]
}

// all is what came together, in the order in which it came.
func (o *modelOp) all() api.Sibs {
	s := o.s
	for _, x := range o.told {
		s = sibs.Join(s, x)
	}
	return s
}

func (m *model) end(o *modelOp, err api.Errno, s api.Sibs) {
	o.done = true
	o.times++
	m.said = append(m.said, api.Answer{Op: o.num, Err: err, Sibs: s})
}

func (m *model) begin(read bool, self, need int, key string, s api.Sibs) (int64, api.Errno) {
	if m.len() >= 64 {
		return 0, api.ErrFull
	}
	if len(key) < 1 || len(key) > 32 || !sibs.May(s) {
		return 0, api.ErrArg
	}
	o := &modelOp{num: int64(len(m.ops) + 1), read: read, need: need, key: key, s: s, nodes: []int{self}, told: []api.Sibs{s}}
	m.ops = append(m.ops, o)
	if need <= 1 {
		m.end(o, api.OK, s)
	}
	return o.num, api.OK
}

func (m *model) ack(op int64, node int) bool {
	o := m.find(op)
	if o == nil || o.read || node < 0 || node > 7 || slices.Contains(o.nodes, node) {
		return false
	}
	o.nodes = append(o.nodes, node)
	if len(o.nodes) < o.need {
		return false
	}
	m.end(o, api.OK, o.s)
	return true
}

func (m *model) got(op int64, node int, e api.Entry) ([]int, bool) {
	o := m.find(op)
	if o == nil || !o.read || node < 0 || node > 7 || slices.Contains(o.nodes, node) || e.Key != o.key || !sibs.MayEntry(e) {
		return nil, false
	}
	o.nodes = append(o.nodes, node)
	o.told = append(o.told, e.Sibs)
	if len(o.nodes) < o.need {
		return nil, false
	}
	m.end(o, api.OK, o.all())
	var out []int
	for i, node := range o.nodes {
		if !sibs.Same(o.told[i], o.all()) {
			out = append(out, node)
		}
	}
	slices.Sort(out)
	return out, true
}

func (m *model) tick() int {
	n := 0
	for _, o := range m.ops {
		if o.done {
			continue
		}
		if o.age++; o.age == m.wait {
			m.end(o, api.ErrTimeout, api.Sibs{})
			n++
		}
	}
	return n
}

// agree holds Len and Key of each operation that ever was, and of some that never were, against the model's.
func agree(t *testing.T, c *Coord, m *model) {
	t.Helper()
	if c.Len() != m.len() {
		t.Fatalf("Len is %d, not %d", c.Len(), m.len())
	}
	for op := int64(max(-1, len(m.ops)-64)); op <= int64(len(m.ops)+2); op++ {
		key, s := "", api.Sibs{}
		o := m.find(op)
		if o != nil {
			key, s = o.key, o.all()
		}
		if k, got, ok := c.Key(op); k != key || ok != (o != nil) || text(got) != text(s) {
			t.Fatalf("Key(%d) is %q %s %v, not %q %s", op, k, text(got), ok, key, text(s))
		}
	}
}

// some is sibs of a small world, now and then some that may not be.
func some(r *rand.Rand) api.Sibs {
	if r.Intn(25) == 0 {
		l := wrongSibs()
		return l[r.Intn(len(l))]
	}
	if r.Intn(25) == 0 {
		return full(r.Intn(3), 1+r.Intn(3))
	}
	s := api.Sibs{}
	for node := range 3 {
		s.Seen[node] = int64(r.Intn(3))
		for n := int64(1); n <= s.Seen[node]; n++ {
			if r.Intn(2) == 0 {
				s.Values = append(s.Values, val(node, n, []string{"a", "b", "!"}[r.Intn(3)]))
			}
		}
	}
	slices.SortFunc(s.Values, func(a, b api.Value) int {
		if a.Dot.Node != b.Dot.Node {
			return a.Dot.Node - b.Dot.Node
		}
		return int(a.Dot.N - b.Dot.N)
	})
	return s
}

// step does one of any kind to both, and holds what they tell against each other.
func step(t *testing.T, r *rand.Rand, c *Coord, m *model) {
	t.Helper()
	op := int64(len(m.ops) - r.Intn(12) + 1)
	node := r.Intn(api.MaxNodes+2) - 1
	key := []string{"k", "k", "k", "q", "k", "k", "q", ""}[r.Intn(8)]
	need := r.Intn(api.MaxNodes+3) - 1
	s := some(r)
	switch kind := r.Intn(20); {
	case kind < 5:
		self, read := r.Intn(api.MaxNodes), r.Intn(2) == 0
		begin := c.Write
		if read {
			begin = c.Read
		}
		a, e := begin(self, need, key, s)
		b, f := m.begin(read, self, need, key, s)
		if a != b || e != f {
			t.Fatalf("begun is %d %d, not %d %d", a, e, b, f)
		}
	case kind < 19 || r.Intn(3) > 0:
		stepAnswer(t, r, c, m, op, node, entry(key, s))
	default:
		if a, b := c.Tick(), m.tick(); a != b {
			t.Fatalf("Tick is %d, not %d", a, b)
		}
	}
}

// stepAnswer tells both of an answer.
func stepAnswer(t *testing.T, r *rand.Rand, c *Coord, m *model, op int64, node int, e api.Entry) {
	t.Helper()
	if r.Intn(2) == 0 {
		if a, b := c.Ack(op, node), m.ack(op, node); a != b {
			t.Fatalf("Ack(%d, %d) is %v", op, node, a)
		}
		return
	}
	a, ok := c.Got(op, node, e)
	b, is := m.got(op, node, e)
	if ok != is || !slices.Equal(a, b) {
		t.Fatalf("Got(%d, %d, %q %s) is %v %v, not %v %v", op, node, e.Key, text(e.Sibs), a, ok, b, is)
	}
}

// P22.1, P22.2, P22.3: long runs of any steps, held against the model; each operation has one answer within wait ticks.
func TestLongRuns(t *testing.T) {
	most := 0
	for seed := range int64(40) {
		r := rand.New(rand.NewSource(seed))
		wait := []int{-1, 0, 1, 2, 3, 5, 9, 40}[seed%8]
		c, m := New(wait), newModel(wait)
		times := map[int64]int{}
		if wait == 40 {
			// Else there are never as many under way as may be.
			for op := int64(1); op <= api.MaxOps-2; op++ {
				begun(t, c, op, op%2 == 0, 0, 9, "k", x())
				m.begin(op%2 == 0, 0, 9, "k", x())
			}
		}
		take := func() {
			list := c.Answers()
			if show(list) != show(m.said) {
				t.Fatalf("answers are %s, not %s", show(list), show(m.said))
			}
			m.said = nil
			for _, a := range list {
				times[a.Op]++
			}
		}
		for range 300 {
			step(t, r, c, m)
			agree(t, c, m)
			most = max(most, c.Len())
			if r.Intn(4) == 0 {
				take()
			}
		}
		for range max(wait, 1) {
			if a, b := c.Tick(), m.tick(); a != b {
				t.Fatalf("Tick is %d, not %d", a, b)
			}
			agree(t, c, m)
		}
		take()
		if c.Len() != 0 || len(times) != len(m.ops) {
			t.Fatalf("%d are under way, %d of %d are answered", c.Len(), len(times), len(m.ops))
		}
		for op, n := range times {
			if n != 1 || op < 1 || op > int64(len(m.ops)) {
				t.Fatalf("operation %d has %d answers", op, n)
			}
		}
	}
	if most < api.MaxOps {
		t.Errorf("there were never more than %d under way", most)
	}
}

// P22.3: an operation begun ahead of any Tick has its answer by the last of wait, whatever came, and no other behind it.
func TestJustOne(t *testing.T) {
	r := rand.New(rand.NewSource(22))
	for range 300 {
		wait, need := 1+r.Intn(5), 2+r.Intn(8)
		read := r.Intn(2) == 0
		c := New(wait)
		for range r.Intn(4) {
			c.Tick()
		}
		begun(t, c, 1, read, 3, need, "k", x())
		times := 0
		for tick := range wait + 4 {
			for range r.Intn(4) {
				node := r.Intn(api.MaxNodes)
				c.Ack(1, node)
				c.Got(1, node, entry("k", x()))
			}
			late := c.Tick()
			list := c.Answers()
			times += len(list)
			if late == 1 && tick+1 != wait || late > 1 || len(list) > 1 {
				t.Fatalf("wait %d: at tick %d %d were late, with %s", wait, tick+1, late, show(list))
			}
			if tick+1 >= wait && times != 1 {
				t.Fatalf("wait %d: behind tick %d there were %d answers", wait, tick+1, times)
			}
		}
	}
}

// P22.1, P22.2: several under way at once, their answers mixed, asked for between them.
func TestMixed(t *testing.T) {
	c := New(4)
	begun(t, c, 1, false, 0, 3, "a", x())
	begun(t, c, 2, true, 1, 2, "a", y())
	begun(t, c, 3, true, 2, 3, "b", none())
	begun(t, c, 4, false, 3, 2, "b", both())
	if c.Ack(1, 1) || !c.Ack(4, 1) || c.Len() != 3 {
		t.Error("Ack")
	}
	answers(t, c, okay(4, both()))
	if l, ok := c.Got(3, 1, entry("b", x())); l != nil || ok {
		t.Error(l, ok)
	}
	underWay(t, c, 3, "b", x())
	if c.Tick() != 0 {
		t.Error("Tick")
	}
	begun(t, c, 5, true, 0, 1, "c", dead())
	begun(t, c, 6, false, 0, 2, "c", dead())
	if l, ok := c.Got(2, 0, entry("a", x())); !slices.Equal(l, []int{0, 1}) || !ok {
		t.Error(l, ok)
	}
	if c.Ack(1, 1) || !c.Ack(1, 2) {
		t.Error("Ack")
	}
	answers(t, c, okay(5, dead())+okay(2, both())+okay(1, x()))
	if c.Tick() != 0 || c.Tick() != 0 || c.Len() != 2 {
		t.Error(c.Len())
	}
	if l, ok := c.Got(3, 0, entry("b", y())); !slices.Equal(l, []int{0, 1, 2}) || !ok {
		t.Error(l, ok)
	}
	if c.Tick() != 0 || c.Tick() != 1 {
		t.Error("Tick")
	}
	answers(t, c, okay(3, both())+late(6))
	gone(t, c, 6)
}
