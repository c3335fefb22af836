package hints

import (
	"fmt"
	"math"
	"math/rand"
	"slices"
	"strings"
	"testing"

	"tattler/api"
	"tattler/sibs"
)

// val is a value that is not dead.
func val(node int, n int64, data string) api.Value {
	return api.Value{Dot: api.Dot{Node: node, N: n}, Data: []byte(data)}
}

// gone is a dead value.
func gone(node int, n int64) api.Value {
	return api.Value{Dot: api.Dot{Node: node, N: n}, Dead: true}
}

// known is Sibs of these events and values.
func known(seen api.Vector, values ...api.Value) api.Sibs {
	return api.Sibs{Seen: seen, Values: values}
}

// hint is what is kept for a node of a key.
func hint(node int, key string, seen api.Vector, values ...api.Value) api.Hint {
	return api.Hint{For: node, Entry: api.Entry{Key: key, Sibs: known(seen, values...)}}
}

// text tells Sibs as they stand, by a way of the test's own.
func text(s api.Sibs) string {
	out := fmt.Sprint(s.Seen)
	for _, v := range s.Values {
		out += fmt.Sprintf(" (%d %d) %q %v", v.Dot.Node, v.Dot.N, v.Data, v.Dead)
	}
	return out
}

// nothing is the text of Sibs of which nothing is known.
var nothing = text(api.Sibs{})

// texts tells a row of hints.
func texts(row []api.Hint) string {
	out := ""
	for _, h := range row {
		out += fmt.Sprintf("%d %q: %s\n", h.For, h.Entry.Key, text(h.Entry.Sibs))
	}
	return out
}

// keysOf tells the keys of a row of entries.
func keysOf(row []api.Entry) []string {
	var out []string
	for _, e := range row {
		out = append(out, e.Key)
	}
	return out
}

// isZero tells whether h is a zero hint.
func isZero(h api.Hint) bool {
	return h.For == 0 && h.Entry.Key == "" && text(h.Entry.Sibs) == nothing && h.Entry.Sibs.Values == nil
}

// spoil writes over all that a caller may write over.
func spoil(s api.Sibs) {
	for i := range s.Values[:cap(s.Values)] {
		v := &s.Values[:cap(s.Values)][i]
		for j := range v.Data[:cap(v.Data)] {
			v.Data[:cap(v.Data)][j] = '?'
		}
		*v = gone(-1, -1)
	}
}

// put puts a hint that may be put.
func put(t *testing.T, x *Set, h api.Hint) bool {
	t.Helper()
	changed, err := x.Put(h)
	if err != api.OK {
		t.Fatalf("Put(for %d, %q): %v", h.For, h.Entry.Key, err)
	}
	return changed
}

// of is a set of these hints.
func of(t *testing.T, row ...api.Hint) *Set {
	t.Helper()
	x := New()
	for _, h := range row {
		put(t, x, h)
	}
	return x
}

// some is a set of hints for three nodes, put out of order.
func some(t *testing.T) *Set {
	t.Helper()
	return of(t,
		hint(5, "k", api.Vector{1, 1}, val(0, 1, "x"), val(1, 1, "y")),
		hint(2, "z", api.Vector{3}, gone(0, 3)),
		hint(2, "k", api.Vector{2}, val(0, 2, "q")),
		hint(3, "zero", api.Vector{}),
		hint(5, "a", api.Vector{0, 4}, val(1, 4, "p")),
	)
}

// wrong are hints that may not be, each by one fault.
func wrong() map[string]api.Hint {
	full := api.Vector{99}
	var row []api.Value
	for n := range int64(api.MaxValues + 1) {
		row = append(row, val(0, n+1, "x"))
	}
	return map[string]api.Hint{
		"for a node below 0":        hint(-1, "k", full),
		"for MaxNodes":              hint(api.MaxNodes, "k", full),
		"for the least number":      hint(math.MinInt, "k", full),
		"for the greatest number":   hint(math.MaxInt, "k", full),
		"no key":                    hint(2, "", full),
		"a key too long":            hint(2, strings.Repeat("k", api.MaxKey+1), full),
		"a value too many":          hint(2, "k", full, row...),
		"a count below 0":           hint(2, "k", api.Vector{-1}),
		"a count above MaxCount":    hint(2, "k", api.Vector{0, api.MaxCount + 1}),
		"a dot that is not covered": hint(2, "k", api.Vector{1}, val(0, 2, "x")),
		"a node that is none":       hint(2, "k", full, val(api.MaxNodes, 1, "x")),
		"a node below 0":            hint(2, "k", full, val(-1, 1, "x")),
		"an event 0":                hint(2, "k", full, val(0, 0, "x")),
		"dots that fall":            hint(2, "k", full, val(0, 2, "x"), val(0, 1, "x")),
		"a dot twice":               hint(2, "k", full, val(0, 1, "x"), val(0, 1, "x")),
		"data too long":             hint(2, "k", full, val(0, 1, strings.Repeat("d", api.MaxData+1))),
		"data of the dead":          hint(2, "k", full, api.Value{Dot: api.Dot{N: 1}, Data: []byte("x"), Dead: true}),
	}
}

// P11.1, P11.2: a new set has none; so has one that New did not make.
func TestNew(t *testing.T) {
	for name, x := range map[string]*Set{"New": New(), "zero value": {}} {
		if x == nil {
			t.Fatal(name, "nil")
		}
		if x.Len() != 0 || len(x.All()) != 0 || x.Drop(0, "k", api.Sibs{}) {
			t.Error(name, x.Len(), x.All())
		}
		for node := -1; node <= api.MaxNodes; node++ {
			if len(x.For(node)) != 0 {
				t.Error(name, node, x.For(node))
			}
		}
		if h, ok := x.First(); ok || !isZero(h) {
			t.Error(name, h, ok)
		}
		if !put(t, x, hint(0, "k", api.Vector{1}, val(0, 1, "x"))) || x.Len() != 1 {
			t.Error(name, x.Len())
		}
	}
	if x, y := New(), New(); !put(t, x, hint(1, "k", api.Vector{})) || y.Len() != 0 {
		t.Error("two sets are one")
	}
}

// P11.1: Put keeps the join of all that was put, and tells whether it became more.
func TestPut(t *testing.T) {
	x := New()
	for i, c := range []struct {
		h       api.Hint
		want    string
		changed bool
		size    int
	}{
		{hint(1, "k", api.Vector{1}, val(0, 1, "x")), `[1 0 0 0 0 0 0 0] (0 1) "x" false`, true, 1},
		{hint(1, "k", api.Vector{1}, val(0, 1, "x")), `[1 0 0 0 0 0 0 0] (0 1) "x" false`, false, 1},
		{hint(1, "k", api.Vector{0, 1}, val(1, 1, "y")), `[1 1 0 0 0 0 0 0] (0 1) "x" false (1 1) "y" false`, true, 1},
		// One with less adds nothing.
		{hint(1, "k", api.Vector{1}, val(0, 1, "x")), `[1 1 0 0 0 0 0 0] (0 1) "x" false (1 1) "y" false`, false, 1},
		{hint(1, "k", api.Vector{}), `[1 1 0 0 0 0 0 0] (0 1) "x" false (1 1) "y" false`, false, 1},
		// What was seen and does not stand there is replaced.
		{hint(1, "k", api.Vector{2}, val(0, 2, "z")), `[2 1 0 0 0 0 0 0] (0 2) "z" false (1 1) "y" false`, true, 1},
		{hint(1, "k", api.Vector{2, 1}), `[2 1 0 0 0 0 0 0]`, true, 1},
		{hint(1, "k", api.Vector{2}, val(0, 2, "z")), `[2 1 0 0 0 0 0 0]`, false, 1},
		// Events alone are something new too.
		{hint(1, "k", api.Vector{2, 1, 4}), `[2 1 4 0 0 0 0 0]`, true, 1},
		// A new one of which nothing is known is a change; once it is there it is none.
		{hint(1, "zero", api.Vector{}), nothing, true, 2},
		{hint(1, "zero", api.Vector{}), nothing, false, 2},
		// The same key for another node is another hint.
		{hint(2, "k", api.Vector{1}, val(0, 1, "x")), `[1 0 0 0 0 0 0 0] (0 1) "x" false`, true, 3},
		{hint(2, "zero", api.Vector{}), nothing, true, 4},
		// Like a dot and other data: the first data.
		{hint(3, "u", api.Vector{1}, val(0, 1, "b")), `[1 0 0 0 0 0 0 0] (0 1) "b" false`, true, 5},
		{hint(3, "u", api.Vector{1}, val(0, 1, "c")), `[1 0 0 0 0 0 0 0] (0 1) "b" false`, false, 5},
		{hint(3, "u", api.Vector{1}, val(0, 1, "a")), `[1 0 0 0 0 0 0 0] (0 1) "a" false`, true, 5},
		{hint(3, "u", api.Vector{1}, gone(0, 1)), `[1 0 0 0 0 0 0 0] (0 1) "a" false`, false, 5},
	} {
		changed := put(t, x, c.h)
		row := x.For(c.h.For)
		at := slices.Index(keysOf(row), c.h.Entry.Key)
		if at < 0 || text(row[at].Sibs) != c.want || changed != c.changed || x.Len() != c.size {
			t.Errorf("%d: %v, %v, %d; want %s, %v, %d", i, row, changed, x.Len(), c.want, c.changed, c.size)
		}
	}
}

// P11.1: nodes, keys and data at the ends of what may be.
func TestPutEdges(t *testing.T) {
	var row []api.Value
	for n := range int64(api.MaxValues) {
		row = append(row, val(0, n+1, strings.Repeat("d", api.MaxData)))
	}
	all := []api.Hint{
		hint(0, "\x00", api.Vector{1}, gone(0, 1)),
		hint(0, "k", api.Vector{api.MaxCount}, row...),
		hint(api.MaxNodes-1, strings.Repeat("k", api.MaxKey), api.Vector{7: api.MaxCount}, val(7, api.MaxCount, "")),
		hint(api.MaxNodes-1, "\xff\xfe", api.Vector{1}, val(0, 1, "\x00\xff")),
	}
	x := New()
	for _, h := range all {
		if !put(t, x, h) || put(t, x, h) {
			t.Errorf("%d %q", h.For, h.Entry.Key)
		}
	}
	if texts(x.All()) != texts(all) {
		t.Error(texts(x.All()))
	}
	if got := keysOf(x.For(0)); !slices.Equal(got, []string{"\x00", "k"}) {
		t.Errorf("%q", got)
	}
	if got := keysOf(x.For(api.MaxNodes - 1)); !slices.Equal(got, []string{strings.Repeat("k", api.MaxKey), "\xff\xfe"}) {
		t.Errorf("%q", got)
	}
	for _, h := range all {
		if !x.Drop(h.For, h.Entry.Key, h.Entry.Sibs) {
			t.Errorf("%d %q", h.For, h.Entry.Key)
		}
	}
}

// P11.1: of too many values the first by dots stand; the others count as seen.
func TestPutTooMany(t *testing.T) {
	x := New()
	var want api.Sibs
	for node := range 2 {
		h := hint(4, "k", api.Vector{})
		h.Entry.Sibs.Seen[node] = 10
		for n := range int64(10) {
			h.Entry.Sibs.Values = append(h.Entry.Sibs.Values, val(node, n+1, "x"))
		}
		put(t, x, h)
		want.Seen[node] = 10
		want.Values = append(want.Values, h.Entry.Sibs.Values...)
	}
	want.Values = want.Values[:api.MaxValues]
	if h, ok := x.First(); !ok || text(h.Entry.Sibs) != text(want) {
		t.Error(text(h.Entry.Sibs), ok)
	}
	if put(t, x, api.Hint{For: 4, Entry: api.Entry{Key: "k", Sibs: want}}) {
		t.Error("changed")
	}
}

// P11.1, R4: a hint that may not be is ErrArg and changes nothing, whether there is one of its node and key or not.
func TestPutWrong(t *testing.T) {
	for name, h := range wrong() {
		for _, x := range []*Set{New(), some(t)} {
			before := texts(x.All())
			if changed, err := x.Put(h); changed || err != api.ErrArg {
				t.Error(name, changed, err)
			}
			if texts(x.All()) != before {
				t.Error(name, "changed", texts(x.All()))
			}
		}
	}
}

// full is a set of MaxHints hints, for all nodes.
func full(t *testing.T) *Set {
	t.Helper()
	x := New()
	for i := range api.MaxHints {
		if !put(t, x, hint(i%api.MaxNodes, fmt.Sprint("n", i), api.Vector{1}, val(0, 1, "x"))) || x.Len() != i+1 {
			t.Fatal(i, x.Len())
		}
	}
	return x
}

// P11.1: MaxHints may be there, of all nodes together; one more is ErrLimit, and those that are there still grow.
func TestMaxHints(t *testing.T) {
	x := full(t)
	before := texts(x.All())
	for _, h := range []api.Hint{
		hint(0, "more", api.Vector{1}, val(0, 1, "x")),
		hint(7, "more", api.Vector{}),
		hint(1, "n0", api.Vector{1}, val(0, 1, "x")), // a key that is there for another node
	} {
		if changed, err := x.Put(h); changed || err != api.ErrLimit {
			t.Error(h.For, h.Entry.Key, changed, err)
		}
	}
	// A hint that may not be is that first, also where there is no room for it.
	for name, h := range wrong() {
		if changed, err := x.Put(h); changed || err != api.ErrArg {
			t.Error(name, changed, err)
		}
	}
	if texts(x.All()) != before {
		t.Error("changed")
	}
	if put(t, x, hint(0, "n0", api.Vector{1}, val(0, 1, "x"))) || !put(t, x, hint(7, "n63", api.Vector{0, 1}, val(1, 1, "y"))) || x.Len() != api.MaxHints {
		t.Error(x.Len())
	}
	// What was dropped makes room for one.
	if !x.Drop(3, "n3", known(api.Vector{1})) || x.Len() != api.MaxHints-1 {
		t.Error(x.Len())
	}
	if !put(t, x, hint(0, "more", api.Vector{})) {
		t.Error("no change")
	}
	if _, err := x.Put(hint(3, "n3", api.Vector{})); err != api.ErrLimit || x.Len() != api.MaxHints {
		t.Error(err, x.Len())
	}
}

// P11.1: all hints may be for one node.
func TestMaxHintsOfOne(t *testing.T) {
	x := New()
	for i := range api.MaxHints {
		put(t, x, hint(6, fmt.Sprint("n", i), api.Vector{}))
	}
	if len(x.For(6)) != api.MaxHints || len(x.All()) != api.MaxHints {
		t.Error(len(x.For(6)))
	}
	for node := range api.MaxNodes {
		if _, err := x.Put(hint(node, "more", api.Vector{})); err != api.ErrLimit {
			t.Error(node, err)
		}
	}
}

// P11.1: Drop lets go one of which all is known, once, and no other.
func TestDrop(t *testing.T) {
	x := some(t)
	for i, c := range []struct {
		node int
		key  string
		seen api.Sibs
		did  bool
	}{
		// Of two values one is not known.
		{5, "k", api.Sibs{}, false},
		{5, "k", known(api.Vector{1}, val(0, 1, "x")), false},
		{5, "k", known(api.Vector{0, 1}, val(1, 1, "y")), false},
		// It is not there: the key for another node, another key, no key, no node.
		{3, "k", known(api.Vector{9, 9}), false},
		{5, "z", known(api.Vector{9, 9}), false},
		{5, "", known(api.Vector{9, 9}), false},
		{5, "k\x00", known(api.Vector{9, 9}), false},
		{5, strings.Repeat("k", api.MaxKey+1), known(api.Vector{9, 9}), false},
		{-1, "k", known(api.Vector{9, 9}), false},
		{api.MaxNodes, "k", known(api.Vector{9, 9}), false},
		{math.MinInt, "k", known(api.Vector{9, 9}), false},
		{math.MaxInt, "k", known(api.Vector{9, 9}), false},
		// Of what may not be nothing is Leq.
		{5, "k", known(api.Vector{-1, 9}), false},
		{5, "k", known(api.Vector{api.MaxCount + 1, 9}), false},
		{5, "k", known(api.Vector{1, 1}, val(1, 1, "y"), val(0, 1, "x")), false},
		{3, "zero", known(api.Vector{-1}), false},
		// Just the same, and more, and what has replaced it.
		{5, "k", known(api.Vector{1, 1}, val(0, 1, "x"), val(1, 1, "y")), true},
		{5, "k", known(api.Vector{1, 1}, val(0, 1, "x"), val(1, 1, "y")), false},
		{2, "k", known(api.Vector{2, 1}, val(0, 2, "q"), val(1, 1, "w")), true},
		{2, "k", known(api.Vector{2, 1}, val(0, 2, "q"), val(1, 1, "w")), false},
		{5, "a", known(api.Vector{0, 4}), true},
		// The events are known, but a value stands that the hint has replaced.
		{2, "z", known(api.Vector{3}, val(0, 1, "old"), gone(0, 3)), false},
		// The same dot with other data: only the one that the join takes is enough.
		{2, "z", known(api.Vector{3}, val(0, 3, "live")), true},
		{3, "zero", api.Sibs{}, true},
		{3, "zero", api.Sibs{}, false},
	} {
		before, size := texts(x.All()), x.Len()
		if did := x.Drop(c.node, c.key, c.seen); did != c.did {
			t.Fatal(i, did)
		}
		if !c.did && texts(x.All()) != before {
			t.Error(i, "changed", texts(x.All()))
		}
		if c.did && (x.Len() != size-1 || slices.Contains(keysOf(x.For(c.node)), c.key)) {
			t.Error(i, texts(x.All()))
		}
	}
	if x.Len() != 0 {
		t.Error(texts(x.All()))
	}
	// What is put again is a new one.
	if !put(t, x, hint(5, "k", api.Vector{})) || texts(x.All()) != texts([]api.Hint{hint(5, "k", api.Vector{})}) {
		t.Error(texts(x.All()))
	}
}

// P11.1: a hint that has grown is not dropped by what was enough ahead of it.
func TestDropGrown(t *testing.T) {
	x := of(t, hint(1, "k", api.Vector{1}, val(0, 1, "x")))
	first := known(api.Vector{1}, val(0, 1, "x"))
	put(t, x, hint(1, "k", api.Vector{2}, val(0, 2, "y")))
	if x.Drop(1, "k", first) || x.Len() != 1 {
		t.Error("dropped")
	}
	if !x.Drop(1, "k", known(api.Vector{2}, val(0, 2, "y"))) || x.Len() != 0 {
		t.Error("not dropped")
	}
}

// P11.2, R5: For tells the keys rising byte by byte, a beginning ahead of what goes on; All and First by node first.
func TestOrder(t *testing.T) {
	rising := []string{"\x00", "\x00\x00", "0", "10", "2", "A", "a", "a\x00", "aa", "ab", "b", "\x7f", "\x80", "\xc3\xa9", "\xff", "\xff\xff"}
	nodes := []int{0, 2, api.MaxNodes - 1}
	for seed := range int64(20) {
		var want []api.Hint
		for _, node := range nodes {
			for i, key := range rising {
				want = append(want, hint(node, key, api.Vector{int64(i), int64(node)}))
			}
		}
		x := New()
		for _, i := range rand.New(rand.NewSource(seed)).Perm(len(want)) {
			put(t, x, want[i])
		}
		if texts(x.All()) != texts(want) || x.Len() != len(want) {
			t.Fatal(texts(x.All()))
		}
		for _, node := range nodes {
			row := x.For(node)
			if !slices.Equal(keysOf(row), rising) {
				t.Fatalf("%d: %q", node, keysOf(row))
			}
			for i, e := range row {
				if text(e.Sibs) != text(known(api.Vector{int64(i), int64(node)})) {
					t.Errorf("%d %q: %s", node, e.Key, text(e.Sibs))
				}
			}
		}
		// First is what All begins with, down to the last.
		for i, h := range want {
			got, ok := x.First()
			if !ok || texts([]api.Hint{got}) != texts([]api.Hint{h}) {
				t.Fatal(i, texts([]api.Hint{got}), ok)
			}
			if !x.Drop(got.For, got.Entry.Key, got.Entry.Sibs) {
				t.Fatal(i)
			}
		}
		if h, ok := x.First(); ok || !isZero(h) || x.Len() != 0 {
			t.Fatal(h, ok)
		}
	}
}

// P11.2: a node for which nothing is kept has none, between others too; a node that is none has none.
func TestForNone(t *testing.T) {
	x := some(t)
	for _, node := range []int{0, 1, 4, 6, 7, -1, api.MaxNodes, math.MinInt, math.MaxInt} {
		if got := x.For(node); len(got) != 0 {
			t.Error(node, got)
		}
	}
	x = full(t)
	for _, node := range []int{-1, api.MaxNodes, math.MinInt, math.MaxInt} {
		if got := x.For(node); len(got) != 0 {
			t.Error(node, got)
		}
	}
}

// P11.1, P11.2: what is done for one node makes no difference to the hints of others.
func TestOthers(t *testing.T) {
	for node := range api.MaxNodes {
		x := New()
		for other := range api.MaxNodes {
			put(t, x, hint(other, "k", api.Vector{int64(other)}))
			put(t, x, hint(other, "m", api.Vector{1}, val(0, 1, fmt.Sprint(other))))
		}
		rest := func() string {
			return texts(slices.DeleteFunc(x.All(), func(h api.Hint) bool { return h.For == node }))
		}
		before := rest()
		put(t, x, hint(node, "k", api.Vector{99}, val(0, 99, "new")))
		put(t, x, hint(node, "a", api.Vector{}))
		put(t, x, hint(node, "z", api.Vector{}))
		if got := rest(); got != before {
			t.Error(node, got)
		}
		if !slices.Equal(keysOf(x.For(node)), []string{"a", "k", "m", "z"}) {
			t.Errorf("%d: %q", node, keysOf(x.For(node)))
		}
		for _, e := range x.For(node) {
			if !x.Drop(node, e.Key, e.Sibs) || rest() != before {
				t.Error(node, e.Key)
			}
		}
		if len(x.For(node)) != 0 || x.Len() != 2*(api.MaxNodes-1) {
			t.Error(node, x.Len())
		}
	}
}

// R2: what was handed in, or is told, written over by the caller, changes nothing; and it is not written over for the caller.
func TestMemory(t *testing.T) {
	x := some(t)
	// The first Put makes one, the second meets what is there, the third makes it more.
	for i := range 3 {
		wide := make([]api.Value, 2, 4)
		wide[0] = api.Value{Dot: api.Dot{Node: 0, N: 1}, Data: []byte("xbehind")[:1]}
		wide[1] = val(1, 1, "y")
		wide[:3][2] = val(2, 1, "behind")
		h := hint(4, "m", api.Vector{1, 1, int64(i / 2)})
		h.Entry.Sibs.Values = wide
		if changed := put(t, x, h); changed == (i == 1) {
			t.Error(i, changed)
		}
		if text(h.Entry.Sibs) != fmt.Sprint(h.Entry.Sibs.Seen, ` (0 1) "x" false (1 1) "y" false`) || string(wide[0].Data[:7]) != "xbehind" || string(wide[:3][2].Data) != "behind" {
			t.Error("what was handed in is changed", text(h.Entry.Sibs))
		}
		want := texts(x.All())
		spoil(h.Entry.Sibs)
		if got := texts(x.All()); got != want {
			t.Fatal(got)
		}
	}
	want := texts(x.All())
	h, _ := x.First()
	spoil(h.Entry.Sibs)
	for node := range api.MaxNodes {
		for _, e := range x.For(node) {
			spoil(e.Sibs)
		}
	}
	all := x.All()
	for i := range all {
		spoil(all[i].Entry.Sibs)
		all[i] = api.Hint{}
	}
	if got := texts(x.All()); got != want {
		t.Error(got)
	}
}

// R2: no two lists of one answer share memory; what was told stays as it was told.
func TestMemoryOfAnswers(t *testing.T) {
	for i := range 5 {
		x := some(t)
		all, before := x.All(), x.All()
		spoil(all[i].Entry.Sibs)
		all[i], before[i] = api.Hint{}, api.Hint{}
		if texts(all) != texts(before) {
			t.Error(i, texts(all))
		}
	}
	x := some(t)
	all, want := x.All(), texts(x.All())
	row := x.For(5)
	rowText := fmt.Sprint(row)
	put(t, x, hint(5, "k", api.Vector{9, 9}, val(0, 9, "w")))
	put(t, x, hint(0, "first", api.Vector{}))
	x.Drop(2, "k", known(api.Vector{9}))
	x.Drop(5, "a", known(api.Vector{0, 9}))
	if texts(all) != want || fmt.Sprint(row) != rowText {
		t.Error(texts(all), row)
	}
	// Drop neither keeps nor changes what it is handed.
	seen := known(api.Vector{9, 9}, val(0, 9, "w"))
	if !x.Drop(5, "k", seen) || text(seen) != `[9 9 0 0 0 0 0 0] (0 9) "w" false` {
		t.Error(text(seen))
	}
	want = texts(x.All())
	spoil(seen)
	if texts(x.All()) != want {
		t.Error(texts(x.All()))
	}
}

// R3: a nil set tells zero values, and ErrArg.
func TestNil(t *testing.T) {
	var x *Set
	for _, h := range []api.Hint{{}, hint(1, "k", api.Vector{1}, val(0, 1, "x")), hint(-1, "", api.Vector{-1})} {
		if changed, err := x.Put(h); changed || err != api.ErrArg {
			t.Error(changed, err)
		}
		if x.Drop(h.For, h.Entry.Key, h.Entry.Sibs) {
			t.Error("dropped")
		}
	}
	if h, ok := x.First(); ok || !isZero(h) {
		t.Error(h, ok)
	}
	if x.Len() != 0 || x.All() != nil {
		t.Error("not zero")
	}
	for node := -1; node <= api.MaxNodes; node++ {
		if x.For(node) != nil {
			t.Error(node, x.For(node))
		}
	}
}

// randomSibs is of few events, so that many meet.
func randomSibs(r *rand.Rand) api.Sibs {
	var s api.Sibs
	for node := range 3 {
		s.Seen[node] = int64(r.Intn(4))
		for n := int64(1); n <= s.Seen[node]; n++ {
			switch r.Intn(4) {
			case 0:
				s.Values = append(s.Values, gone(node, n))
			case 1:
				s.Values = append(s.Values, val(node, n, string("abc"[r.Intn(3)])))
			}
		}
	}
	return s
}

// knows tells whether one who has seen so much has nothing to learn of s, by a way of the test's own: value by value.
func knows(seen, s api.Sibs) bool {
	for node := range api.MaxNodes {
		if s.Seen[node] > seen.Seen[node] {
			return false
		}
	}
	stands := func(l api.Sibs, d api.Dot) int {
		return slices.IndexFunc(l.Values, func(v api.Value) bool { return v.Dot == d })
	}
	// What stands at s stands with it too, or was replaced; then it must be what a join would take.
	for _, v := range s.Values {
		at := stands(seen, v.Dot)
		if at < 0 {
			continue
		}
		w := seen.Values[at]
		if w.Dead && !v.Dead || w.Dead == v.Dead && string(v.Data) < string(w.Data) {
			return false
		}
	}
	// What s has replaced does not stand with it.
	for _, w := range seen.Values {
		if w.Dot.N <= s.Seen[w.Dot.Node] && stands(s, w.Dot) < 0 {
			return false
		}
	}
	return true
}

// P11.3: what is dropped was known to the one who said so, and what it did not know is kept.
func TestDropKnown(t *testing.T) {
	dropped, kept := 0, 0
	for seed := range int64(4000) {
		r := rand.New(rand.NewSource(seed))
		h := api.Hint{For: r.Intn(api.MaxNodes), Entry: api.Entry{Key: "k", Sibs: randomSibs(r)}}
		seen := randomSibs(r)
		// Every other one has heard of the hint, and maybe of more.
		if seed%2 == 0 {
			seen = sibs.Join(seen, h.Entry.Sibs)
		}
		x := of(t, h)
		did := x.Drop(h.For, "k", seen)
		if did != knows(seen, h.Entry.Sibs) || x.Len() == 0 != did {
			t.Fatalf("seed %d: %v: %s of %s", seed, did, text(h.Entry.Sibs), text(seen))
		}
		if did {
			dropped++
			if text(sibs.Join(h.Entry.Sibs, seen)) != text(seen) {
				t.Fatalf("seed %d: %s adds to %s", seed, text(h.Entry.Sibs), text(seen))
			}
			continue
		}
		kept++
		if texts(x.All()) != texts([]api.Hint{h}) {
			t.Fatalf("seed %d: %s", seed, texts(x.All()))
		}
	}
	if dropped < 1000 || kept < 1000 {
		t.Error("one-sided:", dropped, kept)
	}
}

// P11.1, P11.2: long rows of calls, held against a plain map.
func TestRandom(t *testing.T) {
	type place struct {
		node int
		key  string
	}
	for seed := range int64(20) {
		r := rand.New(rand.NewSource(seed))
		x := New()
		plain := map[place]api.Sibs{}
		// Every other set meets its limit.
		wide := 4 + 16*(int(seed)%2)
		for step := range 250 {
			p := place{r.Intn(api.MaxNodes), fmt.Sprint("k", r.Intn(wide))}
			s := randomSibs(r)
			had, there := plain[p]
			if r.Intn(4) == 0 {
				if r.Intn(2) == 0 {
					s = sibs.Join(had, s)
				}
				want := there && knows(s, had)
				if did := x.Drop(p.node, p.key, s); did != want {
					t.Fatal(seed, step, did)
				}
				if want {
					delete(plain, p)
				}
			} else {
				want, wantErr := true, api.OK
				switch {
				case !there && len(plain) == api.MaxHints:
					want, wantErr = false, api.ErrLimit
				default:
					plain[p] = sibs.Join(had, s)
					want = !there || text(plain[p]) != text(had)
				}
				changed, err := x.Put(api.Hint{For: p.node, Entry: api.Entry{Key: p.key, Sibs: s}})
				if changed != want || err != wantErr {
					t.Fatal(seed, step, changed, err)
				}
			}
			var row []api.Hint
			for p, s := range plain {
				row = append(row, api.Hint{For: p.node, Entry: api.Entry{Key: p.key, Sibs: s}})
			}
			slices.SortFunc(row, func(a, b api.Hint) int {
				return strings.Compare(fmt.Sprint(a.For, a.Entry.Key), fmt.Sprint(b.For, b.Entry.Key))
			})
			if texts(x.All()) != texts(row) || x.Len() != len(row) {
				t.Fatal(seed, step, texts(x.All()))
			}
		}
	}
}

// The chapter's example.
func TestExample(t *testing.T) {
	x := of(t, hint(1, "k", api.Vector{1}, val(0, 1, "x")))
	if x.Drop(1, "k", api.Sibs{}) || x.Len() != 1 {
		t.Error(texts(x.All()))
	}
}
