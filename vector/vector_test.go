package vector

import (
	"bytes"
	"math"
	"math/rand"
	"slices"
	"strings"
	"testing"

	"tattler/api"
	"tattler/wire"
)

const last = api.MaxNodes - 1

// at is a vector whose one count that is not 0 is n.
func at(node int, n int64) api.Vector {
	var v api.Vector
	v[node] = n
	return v
}

// all is a vector of MaxNodes times n.
func all(n int64) api.Vector {
	var v api.Vector
	for i := range v {
		v[i] = n
	}
	return v
}

// edges are counts at which something changes, also those that may not be.
var edges = []int64{math.MinInt64, -2, -1, 0, 1, 2, api.MaxCount - 1, api.MaxCount, api.MaxCount + 1, math.MaxInt64}

// someCount is often 0 or an edge that may be, else small.
func someCount(r *rand.Rand) int64 {
	switch r.Intn(4) {
	case 0:
		return 0
	case 1:
		return api.MaxCount - int64(r.Intn(2))
	}
	return int64(r.Intn(4))
}

// someVector is one that may be.
func someVector(r *rand.Rand) api.Vector {
	var v api.Vector
	for i := range v {
		v[i] = someCount(r)
	}
	return v
}

// P4.1: a vector may be, if each of its counts is 0 to MaxCount, at the first node and at the last.
func TestMay(t *testing.T) {
	for _, v := range []api.Vector{{}, {0, 2, 1}, all(1), all(api.MaxCount)} {
		if !May(v) {
			t.Errorf("May(%v): false", v)
		}
	}
	for _, n := range edges {
		want := n >= 0 && n <= 1<<40
		for node := range api.MaxNodes {
			if got := May(at(node, n)); got != want {
				t.Errorf("May of %d at node %d: %v", n, node, got)
			}
		}
	}
}

// P4.1: a dot is covered, if there is such a node and N is 1 to its count: met just, gone beyond by one, none.
func TestCovers(t *testing.T) {
	v := api.Vector{3, 0, 1, 0, 0, 0, 0, 7}
	for _, c := range []struct {
		d    api.Dot
		want bool
	}{
		{api.Dot{Node: 0, N: 1}, true}, {api.Dot{Node: 0, N: 2}, true}, {api.Dot{Node: 0, N: 3}, true}, {api.Dot{Node: 0, N: 4}, false},
		{api.Dot{Node: 0, N: 0}, false}, {api.Dot{Node: 0, N: -1}, false}, {api.Dot{Node: 0, N: math.MinInt64}, false}, {api.Dot{Node: 0, N: math.MaxInt64}, false},
		{api.Dot{Node: 1, N: 1}, false}, {api.Dot{Node: 1, N: 0}, false},
		{api.Dot{Node: 2, N: 1}, true}, {api.Dot{Node: 2, N: 2}, false},
		{api.Dot{Node: last, N: 7}, true}, {api.Dot{Node: last, N: 8}, false},
		{api.Dot{Node: -1, N: 1}, false}, {api.Dot{Node: api.MaxNodes, N: 1}, false},
		{api.Dot{Node: math.MinInt, N: 1}, false}, {api.Dot{Node: math.MaxInt, N: 1}, false},
	} {
		if got := Covers(v, c.d); got != c.want {
			t.Errorf("Covers(%v, %v): %v", v, c.d, got)
		}
	}
	if !Covers(at(last, api.MaxCount), api.Dot{Node: last, N: api.MaxCount}) || Covers(at(last, api.MaxCount), api.Dot{Node: last, N: api.MaxCount + 1}) {
		t.Error("Covers at MaxCount")
	}
	if Covers(all(-3), api.Dot{N: -3}) || Covers(all(-3), api.Dot{N: 0}) {
		t.Error("Covers of a count below 0")
	}
}

// P4.1: Join takes of each node the greater count, whatever counts are handed in.
func TestJoin(t *testing.T) {
	for _, c := range []struct{ a, b, want api.Vector }{
		{api.Vector{}, api.Vector{}, api.Vector{}},
		{api.Vector{0, 2, 1}, api.Vector{1, 1, 5}, api.Vector{1, 2, 5}},
		{at(0, 4), at(last, 6), api.Vector{4, 0, 0, 0, 0, 0, 0, 6}},
		{api.Vector{}, all(api.MaxCount), all(api.MaxCount)},
		{all(-1), all(math.MinInt64), all(-1)},
		{all(math.MaxInt64), all(0), all(math.MaxInt64)},
	} {
		if got := Join(c.a, c.b); got != c.want {
			t.Errorf("Join(%v, %v): %v", c.a, c.b, got)
		}
		if got := Join(c.b, c.a); got != c.want {
			t.Errorf("Join(%v, %v): %v", c.b, c.a, got)
		}
	}
}

// P4.1: Leq asks each count: one that is greater, at any node, is enough for a false.
func TestLeq(t *testing.T) {
	for node := range api.MaxNodes {
		for _, a := range edges {
			for _, b := range edges {
				if got := Leq(at(node, a), at(node, b)); got != (a <= b) {
					t.Errorf("Leq of %d and %d at node %d: %v", a, b, node, got)
				}
			}
		}
	}
	for _, c := range []struct {
		a, b api.Vector
		want bool
	}{
		{api.Vector{}, api.Vector{}, true}, {api.Vector{}, all(1), true}, {all(1), api.Vector{}, false},
		{api.Vector{0, 2, 1}, api.Vector{1, 1, 5}, false}, {api.Vector{1, 1, 5}, api.Vector{0, 2, 1}, false},
		{api.Vector{0, 2, 1}, api.Vector{1, 2, 5}, true}, {api.Vector{1, 2, 5}, api.Vector{0, 2, 1}, false},
	} {
		if got := Leq(c.a, c.b); got != c.want {
			t.Errorf("Leq(%v, %v): %v", c.a, c.b, got)
		}
	}
}

// P4.1: With raises one count, lowers none, and leaves v where there is no such node.
func TestWith(t *testing.T) {
	v := api.Vector{5, 0, 2, 0, 0, 0, 0, 3}
	for _, c := range []struct {
		d    api.Dot
		want api.Vector
	}{
		{api.Dot{Node: 0, N: 9}, api.Vector{9, 0, 2, 0, 0, 0, 0, 3}},
		{api.Dot{Node: 0, N: 6}, api.Vector{6, 0, 2, 0, 0, 0, 0, 3}},
		{api.Dot{Node: 0, N: 5}, v}, {api.Dot{Node: 0, N: 4}, v}, {api.Dot{Node: 0, N: 0}, v}, {api.Dot{Node: 0, N: -8}, v},
		{api.Dot{Node: 1, N: 1}, api.Vector{5, 1, 2, 0, 0, 0, 0, 3}}, {api.Dot{Node: 1, N: -1}, v},
		{api.Dot{Node: last, N: 4}, api.Vector{5, 0, 2, 0, 0, 0, 0, 4}},
		{api.Dot{Node: last, N: math.MaxInt64}, api.Vector{5, 0, 2, 0, 0, 0, 0, math.MaxInt64}},
		{api.Dot{Node: -1, N: 9}, v}, {api.Dot{Node: api.MaxNodes, N: 9}, v},
		{api.Dot{Node: math.MinInt, N: 9}, v}, {api.Dot{Node: math.MaxInt, N: 9}, v},
	} {
		if got := With(v, c.d); got != c.want {
			t.Errorf("With(%v, %v): %v", v, c.d, got)
		}
	}
}

// P4.1: Next tells one more than the count; ErrArg without a node, ErrLimit from MaxCount on, and then no dot.
func TestNext(t *testing.T) {
	for _, c := range []struct {
		v    api.Vector
		node int
		want api.Dot
		err  api.Errno
	}{
		{api.Vector{}, 0, api.Dot{Node: 0, N: 1}, api.OK},
		{api.Vector{0, 2, 1}, 1, api.Dot{Node: 1, N: 3}, api.OK},
		{at(last, 7), last, api.Dot{Node: last, N: 8}, api.OK},
		{at(3, api.MaxCount), 4, api.Dot{Node: 4, N: 1}, api.OK},
		{at(3, api.MaxCount-1), 3, api.Dot{Node: 3, N: api.MaxCount}, api.OK},
		{at(3, api.MaxCount), 3, api.Dot{}, api.ErrLimit},
		{at(3, api.MaxCount+1), 3, api.Dot{}, api.ErrLimit},
		{at(3, math.MaxInt64), 3, api.Dot{}, api.ErrLimit},
		{all(api.MaxCount), -1, api.Dot{}, api.ErrArg},
		{all(api.MaxCount), api.MaxNodes, api.Dot{}, api.ErrArg},
		{api.Vector{}, math.MinInt, api.Dot{}, api.ErrArg},
		{api.Vector{}, math.MaxInt, api.Dot{}, api.ErrArg},
		{all(-5), 2, api.Dot{Node: 2, N: -4}, api.OK},
	} {
		if got, err := Next(c.v, c.node); got != c.want || err != c.err {
			t.Errorf("Next(%v, %d): %v, %d", c.v, c.node, got, err)
		}
	}
}

// P4.1: dots stand by Node, then N.
func TestLess(t *testing.T) {
	ordered := []api.Dot{{Node: math.MinInt, N: 9}, {Node: -1, N: 5}, {Node: 0, N: math.MinInt64}, {Node: 0, N: -1}, {Node: 0, N: 0}, {Node: 0, N: 9}, {Node: 1, N: 1}, {Node: 1, N: 2}, {Node: last, N: 0}, {Node: math.MaxInt, N: math.MaxInt64}}
	for i, a := range ordered {
		for j, b := range ordered {
			if got := Less(a, b); got != (i < j) {
				t.Errorf("Less(%v, %v): %v", a, b, got)
			}
		}
	}
}

// bytesOf is v as a writer with room enough has it.
func bytesOf(t *testing.T, v api.Vector) []byte {
	t.Helper()
	w := wire.NewWriter(1000)
	Write(w, v)
	b, err := w.Done()
	if err != api.OK {
		t.Fatalf("Done: %d", err)
	}
	return b
}

// P4.2: Write writes each count as an Int, also one that may not be.
func TestWrite(t *testing.T) {
	for _, v := range []api.Vector{{}, {0, 2, 1}, at(last, api.MaxCount), {-1, math.MinInt64, math.MaxInt64, api.MaxCount + 1}} {
		w := wire.NewWriter(1000)
		for _, n := range v {
			w.Int(n)
		}
		want, _ := w.Done()
		if got := bytesOf(t, v); !bytes.Equal(got, want) {
			t.Errorf("Write of %v: % x, want % x", v, got, want)
		}
	}
	if got := bytesOf(t, api.Vector{0, 2, 1}); !bytes.Equal(got, []byte{0, 4, 2, 0, 0, 0, 0, 0}) {
		t.Errorf("Write of 0,2,1: % x", got)
	}
}

// P4.2: Write goes on behind what stands, and its room may end within it.
func TestWriteRoom(t *testing.T) {
	w := wire.NewWriter(9)
	w.Flag(true)
	Write(w, api.Vector{})
	if b, err := w.Done(); err != api.OK || !bytes.Equal(b, []byte{1, 0, 0, 0, 0, 0, 0, 0, 0}) {
		t.Errorf("room met: % x, %d", b, err)
	}
	w = wire.NewWriter(8)
	w.Flag(true)
	Write(w, api.Vector{})
	if b, err := w.Done(); err != api.ErrLong || b != nil {
		t.Errorf("room passed: % x, %d", b, err)
	}
	Write(nil, all(3))
}

// P4.2: Read takes what was written, and no byte more.
func TestRead(t *testing.T) {
	for _, v := range []api.Vector{{}, {0, 2, 1}, all(1), at(0, api.MaxCount), at(last, api.MaxCount), all(api.MaxCount)} {
		r := wire.NewReader(append(bytesOf(t, v), 0xff))
		if got, ok := Read(r); !ok || got != v {
			t.Errorf("Read of %v: %v, %v", v, got, ok)
		}
		if r.Left() != 1 {
			t.Errorf("Read of %v: %d bytes left", v, r.Left())
		}
		r = wire.NewReader(bytesOf(t, v))
		if got, ok := Read(r); !ok || got != v || r.End() != api.OK {
			t.Errorf("Read of %v to the end: %v, %v, %d", v, got, ok, r.End())
		}
	}
}

// P4.2: two vectors that stand behind one another are read one by one.
func TestReadTwo(t *testing.T) {
	a, b := api.Vector{0, 2, 1}, at(last, api.MaxCount)
	r := wire.NewReader(append(bytesOf(t, a), bytesOf(t, b)...))
	if got, ok := Read(r); !ok || got != a {
		t.Errorf("first: %v, %v", got, ok)
	}
	if got, ok := Read(r); !ok || got != b {
		t.Errorf("second: %v, %v", got, ok)
	}
	if got, ok := Read(r); ok || got != (api.Vector{}) || r.End() != api.ErrShort {
		t.Errorf("behind the end: %v, %v, %d", got, ok, r.End())
	}
}

// P4.2: a count that may not be is a false, wherever it stands; the reader has taken all and has no error.
func TestReadMayNot(t *testing.T) {
	for _, n := range []int64{-1, math.MinInt64, api.MaxCount + 1, math.MaxInt64} {
		for node := range api.MaxNodes {
			v := all(5)
			v[node] = n
			r := wire.NewReader(append(bytesOf(t, v), 1))
			if got, ok := Read(r); ok || got != (api.Vector{}) {
				t.Errorf("Read of %v: %v, %v", v, got, ok)
			}
			if r.Left() != 1 || !r.Flag() || r.End() != api.OK {
				t.Errorf("Read of %v: the reader does not stand behind it", v)
			}
		}
	}
}

// P4.2: bytes that end early or are no form are a false, and the reader has that error.
func TestReadBroken(t *testing.T) {
	whole := bytesOf(t, api.Vector{300, 2, 1, 0, api.MaxCount, 0, 0, 9})
	for n := range whole {
		r := wire.NewReader(whole[:n])
		if got, ok := Read(r); ok || got != (api.Vector{}) || r.End() != api.ErrShort {
			t.Errorf("%d of %d bytes: %v, %v, %d", n, len(whole), got, ok, r.End())
		}
	}
	for _, b := range [][]byte{{0, 0x80, 0, 0, 0, 0, 0, 0, 0, 0}, {0, 0, 0, 0, 0, 0, 0, 0x80, 0}, {1, 0x80, 0, 0, 0, 0, 0, 0, 0}} {
		r := wire.NewReader(b)
		if got, ok := Read(r); ok || got != (api.Vector{}) || r.End() != api.ErrForm {
			t.Errorf("% x: %v, %v, %d", b, got, ok, r.End())
		}
	}
}

// P4.2: false, if the reader has an error behind it, or is nil.
func TestReadBehindError(t *testing.T) {
	r := wire.NewReader(append([]byte{2}, bytesOf(t, api.Vector{1})...))
	r.Flag()
	if got, ok := Read(r); ok || got != (api.Vector{}) || r.End() != api.ErrForm {
		t.Errorf("behind ErrForm: %v, %v, %d", got, ok, r.End())
	}
	r = wire.NewReader([]byte{9, 0, 0, 0, 0, 0, 0, 0, 0, 0})
	r.Text(3)
	if got, ok := Read(r); ok || got != (api.Vector{}) || r.End() != api.ErrLong {
		t.Errorf("behind ErrLong: %v, %v, %d", got, ok, r.End())
	}
	if got, ok := Read(nil); ok || got != (api.Vector{}) {
		t.Errorf("nil reader: %v, %v", got, ok)
	}
}

// texts are vectors and the one text that each has.
var texts = []struct {
	v api.Vector
	s string
}{
	{api.Vector{}, "0"},
	{api.Vector{0, 2, 1}, "0,2,1"},
	{at(0, 5), "5"},
	{at(1, 5), "0,5"},
	{api.Vector{1, 0, 0, 2}, "1,0,0,2"},
	{at(0, api.MaxCount), "1099511627776"},
	{at(last, api.MaxCount), "0,0,0,0,0,0,0,1099511627776"},
	{api.Vector{10, 20, 30, 40, 50, 60, 70, 80}, "10,20,30,40,50,60,70,80"},
}

// P4.3: the counts up to the last that is not 0; and back.
func TestText(t *testing.T) {
	for _, c := range texts {
		if got := Text(c.v); got != c.s {
			t.Errorf("Text(%v): %q", c.v, got)
		}
		if got, ok := Parse(c.s); !ok || got != c.v {
			t.Errorf("Parse(%q): %v, %v", c.s, got, ok)
		}
	}
	if got := Text(api.Vector{-1, 0, math.MinInt64, math.MaxInt64}); got != "-1,0,-9223372036854775808,9223372036854775807" {
		t.Errorf("Text of counts that may not be: %q", got)
	}
}

// P4.3: false of texts that are none, or of one that may not be.
func TestParseNone(t *testing.T) {
	for _, s := range []string{
		"", " ", ",", ",,", ",,,,,,,", "a", "1,a", "1;2", "0x1", "1.0", "1e3", "1_0", "١",
		"+1", "-1", "-0", "1,-1", "1,+1", "+", "-",
		"00", "01", "1,01", "00,1",
		"0,0", "1,0", "0,2,1,0", "0,0,0,0,0,0,0,0",
		"1,", ",1", "1,,1", "1, 1", " 1", "1 ", "1\n", "1\x00",
		"0,0,0,0,0,0,0,0,1", "1,2,3,4,5,6,7,8,9", "1,2,3,4,5,6,7,8,", "1,2,3,4,5,6,7,8,0",
		"1099511627777", "1,1099511627777", "9223372036854775807", "9223372036854775808", "-9223372036854775808", "18446744073709551617", strings.Repeat("9", 1000), strings.Repeat("1,", 1000) + "1",
	} {
		if got, ok := Parse(s); ok || got != (api.Vector{}) {
			t.Errorf("Parse(%q): %v, %v", s, got, ok)
		}
	}
}

// P4.3: whatever text is a vector is the text of that vector, and no other is.
func TestParseOne(t *testing.T) {
	r := rand.New(rand.NewSource(4))
	signs := "0012,,,-+ 9"
	found := 0
	for range 20000 {
		b := make([]byte, r.Intn(8))
		for i := range b {
			b[i] = signs[r.Intn(len(signs))]
		}
		s := string(b)
		v, ok := Parse(s)
		if ok != isText(s) || ok && Text(v) != s {
			t.Fatalf("Parse(%q): %v, %v", s, v, ok)
		}
		if ok {
			found++
		}
	}
	if found < 100 {
		t.Errorf("only %d texts of vectors met", found)
	}
}

// isText tells by its look whether a short s is a vector's text.
func isText(s string) bool {
	parts := strings.Split(s, ",")
	for _, p := range parts {
		if p == "" || strings.Trim(p, "0123456789") != "" || len(p) > 1 && p[0] == '0' {
			return false
		}
	}
	return len(parts) <= api.MaxNodes && (s == "0" || parts[len(parts)-1] != "0")
}

// P4.2, P4.3: any vector that may be comes back as it was, as bytes and as a text.
func TestBack(t *testing.T) {
	r := rand.New(rand.NewSource(5))
	for range 3000 {
		v := someVector(r)
		if got, ok := Read(wire.NewReader(bytesOf(t, v))); !ok || got != v {
			t.Fatalf("Read of %v: %v, %v", v, got, ok)
		}
		if got, ok := Parse(Text(v)); !ok || got != v {
			t.Fatalf("Parse(%q): %v, %v", Text(v), got, ok)
		}
	}
}

// P4.4: Join goes both ways, in any order, and of one and itself it is it; it is the least above both.
func TestJoinLeast(t *testing.T) {
	r := rand.New(rand.NewSource(6))
	for range 3000 {
		a, b, c := someVector(r), someVector(r), someVector(r)
		ab := Join(a, b)
		if ab != Join(b, a) || Join(ab, c) != Join(a, Join(b, c)) || Join(a, a) != a {
			t.Fatalf("Join of %v, %v, %v", a, b, c)
		}
		if !Leq(a, ab) || !Leq(b, ab) || !May(ab) {
			t.Fatalf("Join(%v, %v) is not above both: %v", a, b, ab)
		}
		above := Join(ab, c)
		if !Leq(a, above) || !Leq(b, above) || !Leq(ab, above) {
			t.Fatalf("%v is above %v and %v, but not above their join %v", above, a, b, ab)
		}
		if Leq(a, b) != (ab == b) || Leq(a, b) && Leq(b, a) != (a == b) {
			t.Fatalf("Leq(%v, %v): %v", a, b, Leq(a, b))
		}
	}
}

// P4.4: nothing smaller than the join is above both: one less at any node is too few.
func TestJoinNoLess(t *testing.T) {
	r := rand.New(rand.NewSource(7))
	for range 500 {
		a, b := someVector(r), someVector(r)
		for node := range api.MaxNodes {
			less := Join(a, b)
			less[node]--
			if Leq(a, less) && Leq(b, less) {
				t.Fatalf("%v is above %v and %v", less, a, b)
			}
		}
	}
}

// P4.1, P4.4: what is covered by one of two is covered by their join, and no other dot; With is the join with that dot's node alone.
func TestJoinCovers(t *testing.T) {
	r := rand.New(rand.NewSource(8))
	for range 3000 {
		a, b := someVector(r), someVector(r)
		d := api.Dot{Node: r.Intn(api.MaxNodes+2) - 1, N: int64(r.Intn(7) - 2)}
		if Covers(Join(a, b), d) != (Covers(a, d) || Covers(b, d)) {
			t.Fatalf("Covers of Join(%v, %v) and %v", a, b, d)
		}
		if isNode(d.Node) && With(a, d) != Join(a, at(d.Node, d.N)) {
			t.Fatalf("With(%v, %v): %v", a, d, With(a, d))
		}
	}
}

// P4.1: Less puts any dots into one order, whatever order they come in.
func TestLessOrders(t *testing.T) {
	r := rand.New(rand.NewSource(9))
	for range 300 {
		dots := make([]api.Dot, r.Intn(9))
		for i := range dots {
			dots[i] = api.Dot{Node: r.Intn(3), N: int64(r.Intn(3))}
		}
		order := func(a, b api.Dot) int {
			if Less(a, b) {
				return -1
			}
			if Less(b, a) {
				return 1
			}
			return 0
		}
		slices.SortFunc(dots, order)
		for i := 1; i < len(dots); i++ {
			a, b := dots[i-1], dots[i]
			if a.Node > b.Node || a.Node == b.Node && a.N > b.N {
				t.Fatalf("%v ahead of %v", a, b)
			}
		}
	}
}
