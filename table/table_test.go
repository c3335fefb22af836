package table

import (
	"fmt"
	"math"
	"math/rand"
	"slices"
	"strings"
	"testing"

	"tattler/api"
	"tattler/sibs"
)

// val is a value that is not dead.
func val(node int, n int64, data string) api.Value {
	return api.Value{Dot: api.Dot{Node: node, N: n}, Data: []byte(data)}
}

// gone is a dead value.
func gone(node int, n int64) api.Value {
	return api.Value{Dot: api.Dot{Node: node, N: n}, Dead: true}
}

// known is Sibs of these events and values.
func known(seen api.Vector, values ...api.Value) api.Sibs {
	return api.Sibs{Seen: seen, Values: values}
}

// entry is a key and what is known of it.
func entry(key string, seen api.Vector, values ...api.Value) api.Entry {
	return api.Entry{Key: key, Sibs: known(seen, values...)}
}

// text tells Sibs as they stand, by a way of the test's own.
func text(s api.Sibs) string {
	out := fmt.Sprint(s.Seen)
	for _, v := range s.Values {
		out += fmt.Sprintf(" (%d %d) %q %v", v.Dot.Node, v.Dot.N, v.Data, v.Dead)
	}
	return out
}

// nothing is the text of Sibs of which nothing is known.
var nothing = text(api.Sibs{})

// texts tells a row of entries.
func texts(row []api.Entry) string {
	out := ""
	for _, e := range row {
		out += fmt.Sprintf("%q: %s\n", e.Key, text(e.Sibs))
	}
	return out
}

// deep is a copy of its own, by a way of the test's own.
func deep(e api.Entry) api.Entry {
	out := api.Entry{Key: e.Key, Sibs: api.Sibs{Seen: e.Sibs.Seen}}
	for _, v := range e.Sibs.Values {
		v.Data = append([]byte{}, v.Data...)
		out.Sibs.Values = append(out.Sibs.Values, v)
	}
	return out
}

// spoil writes over all that a caller may write over.
func spoil(s api.Sibs) {
	for i := range s.Values[:cap(s.Values)] {
		v := &s.Values[:cap(s.Values)][i]
		for j := range v.Data[:cap(v.Data)] {
			v.Data[:cap(v.Data)][j] = '?'
		}
		*v = gone(-1, -1)
	}
}

// join joins an entry that may be joined.
func join(t *testing.T, x *Table, e api.Entry) (string, bool) {
	t.Helper()
	s, same, err := x.Join(e)
	if err != api.OK {
		t.Fatalf("Join(%q): %v", e.Key, err)
	}
	return text(s), same
}

// of is a table of these entries.
func of(t *testing.T, row ...api.Entry) *Table {
	t.Helper()
	x := New()
	for _, e := range row {
		join(t, x, e)
	}
	return x
}

// some is a table with live, dead and no values.
func some(t *testing.T) *Table {
	t.Helper()
	return of(t,
		entry("k", api.Vector{1, 1}, val(0, 1, "x"), val(1, 1, "y")),
		entry("d", api.Vector{3, 2}, gone(0, 3), gone(1, 2)),
		entry("zero", api.Vector{}),
	)
}

// wrong are entries that may not be, each by one fault.
func wrong() map[string]api.Entry {
	full := api.Vector{99}
	var row []api.Value
	for n := range int64(api.MaxValues + 1) {
		row = append(row, val(0, n+1, "x"))
	}
	return map[string]api.Entry{
		"no key":                    entry("", full),
		"a key too long":            entry(strings.Repeat("k", api.MaxKey+1), full),
		"a value too many":          entry("k", full, row...),
		"a count below 0":           entry("k", api.Vector{-1}),
		"a count above MaxCount":    entry("k", api.Vector{0, api.MaxCount + 1}),
		"a dot that is not covered": entry("k", api.Vector{1}, val(0, 2, "x")),
		"a node that is none":       entry("k", full, val(api.MaxNodes, 1, "x")),
		"a node below 0":            entry("k", full, val(-1, 1, "x")),
		"an event 0":                entry("k", full, val(0, 0, "x")),
		"dots that fall":            entry("k", full, val(0, 2, "x"), val(0, 1, "x")),
		"a dot twice":               entry("k", full, val(0, 1, "x"), val(0, 1, "x")),
		"data too long":             entry("k", full, val(0, 1, strings.Repeat("d", api.MaxData+1))),
		"data of the dead":          entry("k", full, api.Value{Dot: api.Dot{N: 1}, Data: []byte("x"), Dead: true}),
	}
}

// P10.1: a new table has none; so has one that New did not make.
func TestNew(t *testing.T) {
	for name, x := range map[string]*Table{"New": New(), "zero value": {}, "copy of a zero value": new(Table).Copy()} {
		if x == nil {
			t.Fatal(name, "nil")
		}
		if x.Len() != 0 || len(x.All()) != 0 || x.Reap("k") {
			t.Error(name, x.Len(), x.All())
		}
		for b := range api.Buckets {
			if len(x.Bucket(b)) != 0 {
				t.Error(name, b, x.Bucket(b))
			}
		}
		if s, ok := x.Get("k"); ok || text(s) != nothing || s.Values != nil {
			t.Error(name, text(s), ok)
		}
		if got, same := join(t, x, entry("k", api.Vector{1}, val(0, 1, "x"))); got != `[1 0 0 0 0 0 0 0] (0 1) "x" false` || same {
			t.Error(name, got, same)
		}
		if x.Len() != 1 {
			t.Error(name, x.Len())
		}
	}
}

// P10.1: Join tells what is known now, and whether the key was there and knew it.
func TestJoin(t *testing.T) {
	x := New()
	for i, c := range []struct {
		e    api.Entry
		want string
		same bool
		size int
	}{
		{entry("k", api.Vector{1}, val(0, 1, "x")), `[1 0 0 0 0 0 0 0] (0 1) "x" false`, false, 1},
		{entry("k", api.Vector{1}, val(0, 1, "x")), `[1 0 0 0 0 0 0 0] (0 1) "x" false`, true, 1},
		{entry("k", api.Vector{0, 1}, val(1, 1, "y")), `[1 1 0 0 0 0 0 0] (0 1) "x" false (1 1) "y" false`, false, 1},
		{entry("k", api.Vector{1}, val(0, 1, "x")), `[1 1 0 0 0 0 0 0] (0 1) "x" false (1 1) "y" false`, true, 1},
		{entry("k", api.Vector{}), `[1 1 0 0 0 0 0 0] (0 1) "x" false (1 1) "y" false`, true, 1},
		// What was seen and does not stand there is replaced.
		{entry("k", api.Vector{2}, val(0, 2, "z")), `[2 1 0 0 0 0 0 0] (0 2) "z" false (1 1) "y" false`, false, 1},
		{entry("k", api.Vector{2, 1}), `[2 1 0 0 0 0 0 0]`, false, 1},
		{entry("k", api.Vector{2, 1}), `[2 1 0 0 0 0 0 0]`, true, 1},
		{entry("k", api.Vector{2}, val(0, 2, "z")), `[2 1 0 0 0 0 0 0]`, true, 1},
		// Events alone are something new too.
		{entry("k", api.Vector{2, 1, 4}), `[2 1 4 0 0 0 0 0]`, false, 1},
		// A key of which nothing is known is there all the same, but the first time it was not.
		{entry("zero", api.Vector{}), nothing, false, 2},
		{entry("zero", api.Vector{}), nothing, true, 2},
		// Like a dot and other data: the first data.
		{entry("u", api.Vector{1}, val(0, 1, "b")), `[1 0 0 0 0 0 0 0] (0 1) "b" false`, false, 3},
		{entry("u", api.Vector{1}, val(0, 1, "c")), `[1 0 0 0 0 0 0 0] (0 1) "b" false`, true, 3},
		{entry("u", api.Vector{1}, val(0, 1, "a")), `[1 0 0 0 0 0 0 0] (0 1) "a" false`, false, 3},
		{entry("u", api.Vector{1}, gone(0, 1)), `[1 0 0 0 0 0 0 0] (0 1) "a" false`, true, 3},
	} {
		got, same := join(t, x, c.e)
		if got != c.want || same != c.same || x.Len() != c.size {
			t.Errorf("%d: %s, %v, %d; want %s, %v, %d", i, got, same, x.Len(), c.want, c.same, c.size)
		}
		if s, ok := x.Get(c.e.Key); text(s) != c.want || !ok {
			t.Errorf("%d: Get: %s, %v", i, text(s), ok)
		}
	}
}

// P10.1: keys and data at the ends of what may be.
func TestJoinEdges(t *testing.T) {
	var row []api.Value
	for n := range int64(api.MaxValues) {
		row = append(row, val(0, n+1, strings.Repeat("d", api.MaxData)))
	}
	x := New()
	for _, e := range []api.Entry{
		entry("k", api.Vector{api.MaxCount}, row...),
		entry(strings.Repeat("k", api.MaxKey), api.Vector{7: api.MaxCount}, val(7, api.MaxCount, "")),
		entry("\x00", api.Vector{1}, gone(0, 1)),
		entry("\xff\xfe", api.Vector{1}, val(0, 1, "\x00\xff")),
	} {
		if got, same := join(t, x, e); got != text(e.Sibs) || same {
			t.Errorf("%q: %s, %v", e.Key, got, same)
		}
		if got, same := join(t, x, e); got != text(e.Sibs) || !same {
			t.Errorf("%q again: %s, %v", e.Key, got, same)
		}
		if s, ok := x.Get(e.Key); text(s) != text(e.Sibs) || !ok {
			t.Errorf("Get(%q): %s, %v", e.Key, text(s), ok)
		}
	}
}

// P10.1: of too many values the first by dots stand; the others count as seen.
func TestJoinTooMany(t *testing.T) {
	x := New()
	var want api.Sibs
	for node := range 2 {
		e := entry("k", api.Vector{})
		e.Sibs.Seen[node] = 10
		for n := range int64(10) {
			e.Sibs.Values = append(e.Sibs.Values, val(node, n+1, "x"))
		}
		join(t, x, e)
		want.Seen[node] = 10
		want.Values = append(want.Values, e.Sibs.Values...)
	}
	want.Values = want.Values[:api.MaxValues]
	if s, ok := x.Get("k"); text(s) != text(want) || !ok {
		t.Error(text(s))
	}
	if got, same := join(t, x, api.Entry{Key: "k", Sibs: want}); got != text(want) || !same {
		t.Error(got, same)
	}
}

// P10.1, R4: an entry that may not be is ErrArg and changes nothing, whether the key is there or not.
func TestJoinWrong(t *testing.T) {
	for name, e := range wrong() {
		for _, x := range []*Table{New(), some(t)} {
			before := texts(x.All())
			s, same, err := x.Join(e)
			if text(s) != nothing || s.Values != nil || same || err != api.ErrArg {
				t.Error(name, text(s), same, err)
			}
			if texts(x.All()) != before {
				t.Error(name, "changed", texts(x.All()))
			}
		}
	}
}

// P10.1: MaxKeys keys may be there, one more is ErrLimit, and those that are there still grow.
func TestMaxKeys(t *testing.T) {
	x := New()
	for i := range api.MaxKeys {
		if _, same := join(t, x, entry(fmt.Sprint("n", i), api.Vector{1}, val(0, 1, "x"))); same || x.Len() != i+1 {
			t.Fatal(i, same, x.Len())
		}
	}
	before := texts(x.All())
	for _, e := range []api.Entry{entry("more", api.Vector{1}, val(0, 1, "x")), entry("more", api.Vector{}), entry("n", api.Vector{})} {
		s, same, err := x.Join(e)
		if text(s) != nothing || s.Values != nil || same || err != api.ErrLimit || x.Len() != api.MaxKeys {
			t.Error(e.Key, text(s), same, err, x.Len())
		}
		if _, ok := x.Get(e.Key); ok {
			t.Error(e.Key, "is there")
		}
	}
	// An entry that may not be is that first, also where there is no room for it.
	for name, e := range wrong() {
		if _, _, err := x.Join(e); err != api.ErrArg {
			t.Error(name, err)
		}
	}
	if texts(x.All()) != before {
		t.Error("changed")
	}
	if got, same := join(t, x, entry("n255", api.Vector{0, 1}, val(1, 1, "y"))); got != `[1 1 0 0 0 0 0 0] (0 1) "x" false (1 1) "y" false` || same {
		t.Error(got, same)
	}
	if _, same := join(t, x, entry("n0", api.Vector{1}, val(0, 1, "x"))); !same || x.Len() != api.MaxKeys {
		t.Error(same, x.Len())
	}
	// A copy has room for no more than what it is a copy of.
	if _, _, err := x.Copy().Join(entry("more", api.Vector{})); err != api.ErrLimit {
		t.Error(err)
	}
	// A key that was reaped is there still.
	join(t, x, entry("n7", api.Vector{2}, gone(0, 2)))
	if !x.Reap("n7") || x.Len() != api.MaxKeys {
		t.Error(x.Len())
	}
	if _, _, err := x.Join(entry("more", api.Vector{})); err != api.ErrLimit {
		t.Error(err)
	}
}

// P10.1, R7: Get of a key that is not there tells nothing and makes none.
func TestGet(t *testing.T) {
	x := some(t)
	for key, want := range map[string]string{
		"k":    `[1 1 0 0 0 0 0 0] (0 1) "x" false (1 1) "y" false`,
		"d":    `[3 2 0 0 0 0 0 0] (0 3) "" true (1 2) "" true`,
		"zero": nothing,
	} {
		if s, ok := x.Get(key); text(s) != want || !ok {
			t.Error(key, text(s), ok)
		}
	}
	for _, key := range []string{"", "none", "K", "k\x00", "kk", "zer", strings.Repeat("k", api.MaxKey+1)} {
		if s, ok := x.Get(key); text(s) != nothing || s.Values != nil || ok {
			t.Errorf("%q: %s, %v", key, text(s), ok)
		}
	}
	if x.Len() != 3 {
		t.Error(x.Len())
	}
}

// P10.1, R5: All tells every key, rising byte by byte, a beginning ahead of what goes on.
func TestAll(t *testing.T) {
	rising := []string{"\x00", "\x00\x00", "0", "10", "2", "A", "a", "a\x00", "aa", "ab", "b", "\x7f", "\x80", "\xc3\xa9", "\xff", "\xff\xff"}
	for seed := range int64(20) {
		var row []api.Entry
		for _, i := range rand.New(rand.NewSource(seed)).Perm(len(rising)) {
			row = append(row, entry(rising[i], api.Vector{int64(i)}))
		}
		x := of(t, row...)
		var got []string
		for i, e := range x.All() {
			got = append(got, e.Key)
			if e.Sibs.Seen[0] != int64(i) {
				t.Errorf("%q: %s", e.Key, text(e.Sibs))
			}
		}
		if !slices.Equal(got, rising) {
			t.Fatalf("%q", got)
		}
	}
}

// P10.1: each bucket has its own keys, rising; a bucket that is none has none.
func TestBucket(t *testing.T) {
	x := some(t)
	join(t, x, entry("ab", api.Vector{2}, val(0, 1, "q")))
	join(t, x, entry("c", api.Vector{}))
	join(t, x, entry("a\x02", api.Vector{}))
	join(t, x, entry("e", api.Vector{}))
	join(t, x, entry("\xff\xff\xff\xff", api.Vector{}))
	want := []string{"d zero \xff\xff\xff\xff", "e", "", "a\x02 ab c k"}
	for b, list := range want {
		var got []string
		for _, e := range x.Bucket(b) {
			got = append(got, e.Key)
			if s, _ := x.Get(e.Key); text(s) != text(e.Sibs) {
				t.Error(b, e.Key, text(e.Sibs))
			}
		}
		if strings.Join(got, " ") != list {
			t.Errorf("%d: %q, want %q", b, got, list)
		}
	}
	for _, b := range []int{-1, -4, api.Buckets, api.Buckets + 3, math.MinInt, math.MaxInt} {
		if got := x.Bucket(b); len(got) != 0 {
			t.Error(b, got)
		}
	}
}

// P10.1: Reap lets go dead values where there are no others, and tells whether that changed something.
func TestReap(t *testing.T) {
	x := some(t)
	join(t, x, entry("half", api.Vector{1, 1}, gone(0, 1), val(1, 1, "")))
	join(t, x, entry("seen", api.Vector{5}))
	for _, c := range []struct {
		key  string
		did  bool
		want string
	}{
		{"d", true, "[3 2 0 0 0 0 0 0]"},
		{"d", false, "[3 2 0 0 0 0 0 0]"},
		{"k", false, `[1 1 0 0 0 0 0 0] (0 1) "x" false (1 1) "y" false`},
		{"half", false, `[1 1 0 0 0 0 0 0] (0 1) "" true (1 1) "" false`},
		{"zero", false, nothing},
		{"seen", false, "[5 0 0 0 0 0 0 0]"},
		{"none", false, ""},
		{"", false, ""},
	} {
		if did := x.Reap(c.key); did != c.did {
			t.Error(c.key, did)
		}
		s, ok := x.Get(c.key)
		if ok != (c.want != "") || ok && text(s) != c.want {
			t.Error(c.key, text(s), ok)
		}
		if x.Len() != 5 {
			t.Error(c.key, x.Len())
		}
	}
	// What was reaped does not come back.
	if got, same := join(t, x, entry("d", api.Vector{3, 2}, gone(0, 3), gone(1, 2))); got != "[3 2 0 0 0 0 0 0]" || !same {
		t.Error(got, same)
	}
}

// P10.1: what is done to a copy changes nothing of the table, and the other way round.
func TestCopy(t *testing.T) {
	change := map[string]func(x *Table){
		"Join of a key":       func(x *Table) { x.Join(entry("k", api.Vector{2}, val(0, 2, "z"))) },
		"Join of a new key":   func(x *Table) { x.Join(entry("new", api.Vector{})) },
		"Reap":                func(x *Table) { x.Reap("d") },
		"All written over":    func(x *Table) { spoil(x.All()[1].Sibs) },
		"Get written over":    func(x *Table) { s, _ := x.Get("k"); spoil(s) },
		"inside written over": func(x *Table) { spoil(x.known["k"]) },
	}
	for name, f := range change {
		x := some(t)
		before := texts(x.All())
		c := x.Copy()
		if texts(c.All()) != before || c.Len() != x.Len() || c == x {
			t.Fatal(name, texts(c.All()))
		}
		f(c)
		if texts(x.All()) != before {
			t.Error(name, "of the copy:", texts(x.All()))
		}
		c = x.Copy()
		f(x)
		if texts(c.All()) != before {
			t.Error(name, "of the table:", texts(c.All()))
		}
	}
}

// R2: what was handed in, or is told, written over by the caller, changes nothing; and it is not written over for the caller.
func TestMemory(t *testing.T) {
	x := some(t)
	// Two joins: the first fills the key, the second meets what is there.
	for range 2 {
		wide := make([]api.Value, 2, 4)
		wide[0] = api.Value{Dot: api.Dot{Node: 0, N: 1}, Data: []byte("xbehind")[:1]}
		wide[1] = val(1, 1, "y")
		wide[:3][2] = val(2, 1, "behind")
		e := entry("m", api.Vector{1, 1}, wide...)
		e.Sibs.Values = wide
		s, _, err := x.Join(e)
		if err != api.OK || text(s) != `[1 1 0 0 0 0 0 0] (0 1) "x" false (1 1) "y" false` {
			t.Fatal(text(s), err)
		}
		if text(e.Sibs) != text(s) || string(wide[0].Data[:7]) != "xbehind" || string(wide[:3][2].Data) != "behind" {
			t.Error("what was handed in is changed", text(e.Sibs))
		}
		want := texts(x.All())
		spoil(e.Sibs)
		spoil(s)
		if got := texts(x.All()); got != want {
			t.Fatal(got)
		}
	}
	want := texts(x.All())
	s, _ := x.Get("m")
	spoil(s)
	for _, e := range x.All() {
		spoil(e.Sibs)
	}
	for b := range api.Buckets {
		for _, e := range x.Bucket(b) {
			spoil(e.Sibs)
		}
	}
	if got := texts(x.All()); got != want {
		t.Error(got)
	}
	// No two lists of one answer share memory: what one is written over with is not seen in another.
	all := x.All()
	k := slices.IndexFunc(all, func(e api.Entry) bool { return e.Key == "k" })
	m := slices.IndexFunc(all, func(e api.Entry) bool { return e.Key == "m" })
	spoil(all[k].Sibs)
	if text(all[m].Sibs) != `[1 1 0 0 0 0 0 0] (0 1) "x" false (1 1) "y" false` {
		t.Error(text(all[m].Sibs))
	}
}

// P10.1, R3: a nil table tells zero values, and ErrArg.
func TestNil(t *testing.T) {
	var x *Table
	for _, e := range []api.Entry{{}, entry("k", api.Vector{1}, val(0, 1, "x")), entry("", api.Vector{-1})} {
		if s, same, err := x.Join(e); text(s) != nothing || s.Values != nil || same || err != api.ErrArg {
			t.Error(text(s), same, err)
		}
	}
	if s, ok := x.Get("k"); text(s) != nothing || s.Values != nil || ok {
		t.Error(text(s), ok)
	}
	if x.Len() != 0 || x.All() != nil || x.Reap("k") || x.Copy() != nil {
		t.Error("not zero")
	}
	for b := -1; b <= api.Buckets; b++ {
		if x.Bucket(b) != nil {
			t.Error(b, x.Bucket(b))
		}
	}
}

// randomEntry is one of few keys and few events, so that many meet; the data of a dot hangs on the dot alone where alike says so.
func randomEntry(r *rand.Rand, alike bool) api.Entry {
	e := api.Entry{Key: string("abcdef"[r.Intn(6)])}
	for node := range 3 {
		e.Sibs.Seen[node] = int64(r.Intn(4))
		for n := int64(1); n <= e.Sibs.Seen[node]; n++ {
			v := val(node, n, fmt.Sprint(node, n))
			if !alike {
				v.Data = []byte{byte('a' + r.Intn(3))}
			}
			if r.Intn(4) == 0 && !alike || alike && (int64(node)+n)%4 == 0 {
				v = gone(node, n)
			}
			if r.Intn(2) == 0 {
				e.Sibs.Values = append(e.Sibs.Values, v)
			}
		}
	}
	return e
}

// P10.2: entries that are joined in another order, and more often, come to the same table.
func TestOrder(t *testing.T) {
	for seed := range int64(300) {
		r := rand.New(rand.NewSource(seed))
		var row []api.Entry
		for range 2 + r.Intn(12) {
			row = append(row, randomEntry(r, seed%2 == 0))
		}
		want := texts(of(t, row...).All())
		for range 5 {
			other := slices.Clone(row)
			for range r.Intn(10) {
				other = append(other, row[r.Intn(len(row))])
			}
			r.Shuffle(len(other), func(i, j int) { other[i], other[j] = other[j], other[i] })
			x := of(t, other...)
			if got := texts(x.All()); got != want {
				t.Fatalf("seed %d: %swant %s", seed, got, want)
			}
			for _, e := range row {
				if _, same := join(t, x, e); !same {
					t.Fatalf("seed %d: %q is not known", seed, e.Key)
				}
			}
			// What one table has, told to another by its entries, makes them alike.
			if got := texts(of(t, append(x.All(), row[0])...).All()); got != want {
				t.Fatalf("seed %d: %swant %s", seed, got, want)
			}
		}
	}
}

// find is the place of a key in a row, or -1.
func find(row []api.Entry, key string) int {
	return slices.IndexFunc(row, func(e api.Entry) bool { return e.Key == key })
}

// P10.1: long rows of calls, held against a plain row of entries.
func TestRandom(t *testing.T) {
	for seed := range int64(40) {
		r := rand.New(rand.NewSource(seed))
		x := New()
		var row []api.Entry
		for step := range 120 {
			e := randomEntry(r, false)
			at := find(row, e.Key)
			switch r.Intn(6) {
			case 0:
				did := false
				if at >= 0 && len(row[at].Sibs.Values) > 0 && len(sibs.Live(row[at].Sibs)) == 0 {
					row[at].Sibs.Values, did = nil, true
				}
				if got := x.Reap(e.Key); got != did {
					t.Fatal(seed, step, got)
				}
			case 1:
				x = x.Copy()
			default:
				there := at >= 0
				if !there {
					row = append(row, api.Entry{Key: e.Key})
					at = len(row) - 1
				}
				had := text(row[at].Sibs)
				row[at] = deep(api.Entry{Key: e.Key, Sibs: sibs.Join(row[at].Sibs, e.Sibs)})
				got, same := join(t, x, e)
				if got != text(row[at].Sibs) || same != (there && got == had) {
					t.Fatal(seed, step, got, same)
				}
			}
			slices.SortFunc(row, func(a, b api.Entry) int { return strings.Compare(a.Key, b.Key) })
			if texts(x.All()) != texts(row) || x.Len() != len(row) {
				t.Fatal(seed, step, texts(x.All()))
			}
		}
	}
}

// The chapter's example.
func TestExample(t *testing.T) {
	x := of(t, entry("k", api.Vector{0, 1}, val(1, 1, "x")), entry("k", api.Vector{0, 0, 1}, val(2, 1, "y")))
	if s, ok := x.Get("k"); !ok || text(s) != `[0 1 1 0 0 0 0 0] (1 1) "x" false (2 1) "y" false` {
		t.Error(text(s), ok)
	}
}
