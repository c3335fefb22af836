package digest

import (
	"bytes"
	"encoding/hex"
	"fmt"
	"maps"
	"math"
	"math/rand"
	"slices"
	"strings"
	"testing"

	"tattler/api"
	"tattler/sibs"
	"tattler/table"
	"tattler/wire"
)

const last = api.MaxNodes - 1

// val is a value that is not dead.
func val(node int, n int64, data string) api.Value {
	return api.Value{Dot: api.Dot{Node: node, N: n}, Data: []byte(data)}
}

// gone is a dead value.
func gone(node int, n int64) api.Value {
	return api.Value{Dot: api.Dot{Node: node, N: n}, Dead: true}
}

// entry is a key and what is known of it.
func entry(key string, seen api.Vector, values ...api.Value) api.Entry {
	return api.Entry{Key: key, Sibs: api.Sibs{Seen: seen, Values: values}}
}

// dot is the nth event of a node.
func dot(node int, n int64) api.Dot {
	return api.Dot{Node: node, N: n}
}

// told is a digest.
func told(key string, seen api.Vector, dots ...api.Dot) api.Digest {
	return api.Digest{Key: key, Seen: seen, Dots: dots}
}

// seenOf is a vector whose one count that is not 0 is n.
func seenOf(node int, n int64) api.Vector {
	var v api.Vector
	v[node] = n
	return v
}

// count is dots of a node, numbered from one number up to another.
func count(node int, from, to int64) []api.Dot {
	var out []api.Dot
	for n := from; n <= to; n++ {
		out = append(out, dot(node, n))
	}
	return out
}

// text tells an entry as it stands, by a way of the test's own.
func text(e api.Entry) string {
	out := fmt.Sprintf("%q %v", e.Key, e.Sibs.Seen)
	for _, v := range e.Sibs.Values {
		out += fmt.Sprintf(" (%d %d) %q %v", v.Dot.Node, v.Dot.N, v.Data, v.Dead)
	}
	return out
}

// texts tells a row of entries.
func texts(row []api.Entry) string {
	var out strings.Builder
	for _, e := range row {
		out.WriteString(text(e) + "\n")
	}
	return out.String()
}

// digestText tells a digest as it stands.
func digestText(d api.Digest) string {
	out := fmt.Sprintf("%q %v", d.Key, d.Seen)
	for _, x := range d.Dots {
		out += fmt.Sprintf(" (%d %d)", x.Node, x.N)
	}
	return out
}

// digestTexts tells a row of digests.
func digestTexts(row []api.Digest) string {
	out := ""
	for _, d := range row {
		out += digestText(d) + "\n"
	}
	return out
}

// nothing is the text of a zero digest.
var nothing = digestText(api.Digest{})

// keysOf tells the keys of a row of entries, one behind the other.
func keysOf(row []api.Entry) string {
	out := ""
	for _, e := range row {
		out += e.Key
	}
	return out
}

// longKey is the longest key that may be.
var longKey = strings.Repeat("k", api.MaxKey)

// most is an entry with as many values as may stand, as long as may be.
func most() api.Entry {
	e := entry(longKey, api.Vector{})
	for node := range api.MaxNodes {
		e.Sibs.Seen[node] = api.MaxCount
		for n := int64(api.MaxCount - 1); n <= api.MaxCount; n++ {
			e.Sibs.Values = append(e.Sibs.Values, val(node, n, strings.Repeat("d", api.MaxData)))
		}
	}
	return e
}

// right are digests that may be, at the edges.
func right() map[string]api.Digest {
	return map[string]api.Digest{
		"nothing known":         told("k", api.Vector{}),
		"an empty list":         {Key: "k", Dots: []api.Dot{}},
		"no dots":               told("k", api.Vector{0, 2, 1}),
		"events up to the end":  told("k", seenOf(last, api.MaxCount)),
		"a dot":                 told("k", seenOf(0, 1), dot(0, 1)),
		"a dot at the end":      told("k", seenOf(last, api.MaxCount), dot(last, api.MaxCount)),
		"a dot, more seen":      told("k", seenOf(3, 9), dot(3, 1)),
		"by node, then number":  told("k", api.Vector{5, 0, 2}, dot(0, 1), dot(0, 5), dot(2, 1), dot(2, 2)),
		"a lower number behind": told("k", api.Vector{5, 1}, dot(0, 5), dot(1, 1)),
		"as many as may be":     told("k", seenOf(0, 99), count(0, 84, 99)...),
		"of the most":           Of([]api.Entry{most()})[0],
		"the longest key":       told(longKey, seenOf(0, 1), dot(0, 1)),
		"a key of any bytes":    told("\x00\xff%", api.Vector{}),
	}
}

// wrong are digests that may not be, each by one fault.
func wrong() map[string]api.Digest {
	full := seenOf(0, 99)
	out := map[string]api.Digest{
		"no key":                          told("", full, dot(0, 1)),
		"no key, nothing known":           {},
		"a key too long":                  told(longKey+"k", full),
		"a key far too long":              told(strings.Repeat("k", 300), full),
		"a dot too many":                  told("k", full, count(0, 1, api.MaxValues+1)...),
		"many dots too many":              told("k", full, count(0, 1, 99)...),
		"a dot twice":                     told("k", full, dot(0, 2), dot(0, 2)),
		"dots that fall":                  told("k", full, dot(0, 2), dot(0, 1)),
		"dots that fall at the end":       told("k", full, dot(0, 1), dot(0, 3), dot(0, 2)),
		"nodes that fall":                 told("k", api.Vector{5, 5}, dot(1, 1), dot(0, 2)),
		"not covered by one":              told("k", seenOf(0, 2), dot(0, 3)),
		"not covered, the last":           told("k", api.Vector{2, 1}, dot(0, 2), dot(1, 2)),
		"not covered, the first":          told("k", api.Vector{2, 1}, dot(0, 3), dot(1, 1)),
		"nothing seen":                    told("k", api.Vector{}, dot(0, 1)),
		"covered at another node":         told("k", seenOf(1, 9), dot(0, 1)),
		"the event 0":                     told("k", full, dot(0, 0)),
		"an event below 0":                told("k", full, dot(0, -1)),
		"an event far below 0":            told("k", full, dot(0, math.MinInt64)),
		"a node below 0":                  told("k", full, dot(-1, 1)),
		"a node above":                    told("k", full, dot(api.MaxNodes, 1)),
		"a node far above":                told("k", full, dot(math.MaxInt, 1)),
		"a node far below":                told("k", full, dot(math.MinInt, 1)),
		"a count below 0, and a dot":      told("k", api.Vector{1, -1}, dot(0, 1)),
		"a count above all, and a dot":    told("k", api.Vector{1, api.MaxCount + 1}, dot(0, 1)),
		"a count above all, that covers":  told("k", seenOf(0, math.MaxInt64), dot(0, math.MaxInt64)),
		"a count below 0 that would meet": told("k", seenOf(0, -3), dot(0, -3)),
	}
	for node := range api.MaxNodes {
		out[fmt.Sprintf("a count below 0 at %d", node)] = told("k", seenOf(node, -1))
		out[fmt.Sprintf("a count too great at %d", node)] = told("k", seenOf(node, api.MaxCount+1))
	}
	return out
}

// P13.1: Of tells of each entry its key, what was seen, the dots, in order.
func TestOf(t *testing.T) {
	for name, row := range map[string][]api.Entry{"nil": nil, "empty": {}} {
		if got := Of(row); len(got) != 0 {
			t.Errorf("%s: %v", name, got)
		}
	}
	row := []api.Entry{
		entry("z", api.Vector{}),
		entry("k", api.Vector{3, 0, 1}, val(0, 1, "x"), gone(0, 3), val(2, 1, "")),
		entry("a", api.Vector{0, 7}),
		entry("k", seenOf(last, api.MaxCount), val(last, api.MaxCount, "y")),
		{Key: "e", Sibs: api.Sibs{Values: []api.Value{}}},
	}
	want := `"z" [0 0 0 0 0 0 0 0]
"k" [3 0 1 0 0 0 0 0] (0 1) (0 3) (2 1)
"a" [0 7 0 0 0 0 0 0]
"k" [0 0 0 0 0 0 0 1099511627776] (7 1099511627776)
"e" [0 0 0 0 0 0 0 0]
`
	if got := digestTexts(Of(row)); got != want {
		t.Errorf("%s, want %s", got, want)
	}
}

// P13.1: of an entry with as many values as may stand there are as many dots.
func TestOfMost(t *testing.T) {
	e := most()
	got := Of([]api.Entry{e})
	if len(got) != 1 || got[0].Key != e.Key || got[0].Seen != e.Sibs.Seen || len(got[0].Dots) != api.MaxValues || !May(got[0]) {
		t.Fatal(digestTexts(got))
	}
	for i, x := range got[0].Dots {
		if x != e.Sibs.Values[i].Dot {
			t.Error(i, x)
		}
	}
}

// P13.1: the dots are those that sibs.Dots tells: of what may not be, none.
func TestOfMayNot(t *testing.T) {
	for _, e := range []api.Entry{
		entry("k", api.Vector{2}, val(0, 2, "x"), val(0, 1, "y")),
		entry("k", api.Vector{1, -1}, val(0, 1, "x")),
		entry("k", api.Vector{1}, val(0, 2, "x")),
		entry("", api.Vector{1}, val(0, 1, "x"), val(0, 1, "x")),
	} {
		got := Of([]api.Entry{e})
		if len(got) != 1 || got[0].Key != e.Key || got[0].Seen != e.Sibs.Seen || len(got[0].Dots) != 0 {
			t.Errorf("%s: %s", text(e), digestTexts(got))
		}
	}
	got := Of([]api.Entry{entry("", api.Vector{1}, val(0, 1, "x"))})
	if want := `"" [1 0 0 0 0 0 0 0] (0 1)` + "\n"; digestTexts(got) != want {
		t.Errorf("no key: %s", digestTexts(got))
	}
}

// P13.1: what may be at the edges, and what may not, one fault each.
func TestMay(t *testing.T) {
	for name, d := range right() {
		if !May(d) {
			t.Errorf("%s: may not be", name)
		}
	}
	for name, d := range wrong() {
		if May(d) {
			t.Errorf("%s: may be", name)
		}
	}
	// What lies behind the length is not read.
	dots := []api.Dot{dot(0, 1), dot(0, 1), dot(-1, -1)}
	if !May(told("k", seenOf(0, 1), dots[:1]...)) {
		t.Error("a dot behind the length was read")
	}
}

// P13.1: a digest of what may be may be, and one of a dot more, or a dot put elsewhere, as the words say.
func TestMayOfEntries(t *testing.T) {
	r := rand.New(rand.NewSource(1))
	for range 5000 {
		d := Of([]api.Entry{some(r, "k")})[0]
		if !May(d) {
			t.Fatalf("%s may not be", digestText(d))
		}
		d.Dots = append(d.Dots, dot(r.Intn(4), int64(r.Intn(5))))
		x := d.Dots[len(d.Dots)-1]
		want := x.N >= 1 && x.N <= d.Seen[x.Node]
		if i := len(d.Dots) - 2; i >= 0 {
			y := d.Dots[i]
			want = want && (y.Node < x.Node || y.Node == x.Node && y.N < x.N)
		}
		if May(d) != want {
			t.Fatalf("%s: %v", digestText(d), !want)
		}
	}
}

// lacksCases are an entry and digests of others.
func lacksCases() (api.Entry, []struct {
	what string
	d    api.Digest
	want bool
}) {
	e := entry("k", api.Vector{3, 1, 0, 2}, val(0, 2, "x"), gone(1, 1), val(3, 2, "y"))
	return e, []struct {
		what string
		d    api.Digest
		want bool
	}{
		{"the same", told("k", e.Sibs.Seen, dot(0, 2), dot(1, 1), dot(3, 2)), false},
		{"another key", told("q", e.Sibs.Seen, dot(0, 2), dot(1, 1), dot(3, 2)), true},
		{"another key, more seen", told("q", api.Vector{9, 9, 9, 9}), true},
		{"a key that goes on", told("kk", e.Sibs.Seen, dot(0, 2), dot(1, 1), dot(3, 2)), true},
		{"no key", told("", api.Vector{9, 9, 9, 9}), true},
		{"nothing known", told("k", api.Vector{}), true},
		{"one event less at the first", told("k", api.Vector{2, 1, 0, 2}, dot(0, 2), dot(1, 1), dot(3, 2)), true},
		{"one event less in the middle", told("k", api.Vector{3, 0, 0, 2}, dot(0, 2), dot(3, 2)), true},
		{"one event less at the last", told("k", api.Vector{3, 1, 0, 1}, dot(0, 2), dot(1, 1)), true},
		{"less at one, more elsewhere", told("k", api.Vector{9, 9, 9, 1}), true},
		{"more seen, a dot less", told("k", api.Vector{4, 1, 0, 2}, dot(1, 1), dot(3, 2)), false},
		{"as much seen, no dots", told("k", e.Sibs.Seen), false},
		{"all replaced there by a new one", told("k", api.Vector{4, 1, 0, 2}, dot(0, 4)), false},
		{"a dot more that was not seen here", told("k", api.Vector{4, 1, 0, 2}, dot(0, 2), dot(0, 4), dot(1, 1), dot(3, 2)), false},
		{"a dot of a node that is new here", told("k", api.Vector{3, 1, 1, 2}, dot(0, 2), dot(1, 1), dot(2, 1), dot(3, 2)), false},
		{"a dot that is replaced here, below", told("k", e.Sibs.Seen, dot(0, 1), dot(0, 2), dot(1, 1), dot(3, 2)), true},
		{"a dot that is replaced here, at the count", told("k", e.Sibs.Seen, dot(0, 2), dot(0, 3), dot(1, 1), dot(3, 2)), true},
		{"a dot that is replaced here, at the last", told("k", e.Sibs.Seen, dot(0, 2), dot(1, 1), dot(3, 1), dot(3, 2)), true},
		{"that alone", told("k", api.Vector{9, 9, 9, 9}, dot(3, 1)), true},
		{"that behind one not seen here", told("k", api.Vector{9, 9, 9, 9}, dot(0, 4), dot(3, 1)), true},
		{"that ahead of one not seen here", told("k", api.Vector{9, 9, 9, 9}, dot(0, 1), dot(3, 3)), true},
	}
}

// P13.2: what the one who told a digest lacks.
func TestLacks(t *testing.T) {
	e, cases := lacksCases()
	for _, c := range cases {
		if got := Lacks(e, c.d); got != c.want {
			t.Errorf("%s: %v", c.what, got)
		}
		slices.Reverse(c.d.Dots)
		if got := Lacks(e, c.d); got != c.want {
			t.Errorf("%s, its dots falling: %v", c.what, got)
		}
	}
	if !Lacks(entry("k", seenOf(0, 1)), told("k", seenOf(0, 1), dot(0, 1))) {
		t.Error("the document's example")
	}
	if Lacks(entry("k", api.Vector{}), told("k", seenOf(0, 1), dot(0, 1))) || Lacks(entry("k", api.Vector{}), told("k", api.Vector{})) {
		t.Error("one that knows nothing has something")
	}
	if e := most(); Lacks(e, Of([]api.Entry{e})[0]) {
		t.Error("the most: it lacks of itself")
	}
}

// P13.2: at each node one event less is lacked, one more is not; also where numbers are at their ends.
func TestLacksSeen(t *testing.T) {
	for node := range api.MaxNodes {
		for _, n := range []int64{1, 2, api.MaxCount} {
			e := entry("k", seenOf(node, n), val(node, n, "x"))
			if !Lacks(e, told("k", seenOf(node, n-1))) {
				t.Error("less:", node, n)
			}
			if Lacks(e, told("k", seenOf(node, n), dot(node, n))) || Lacks(e, told("k", seenOf(node, n))) {
				t.Error("as many:", node, n)
			}
			if n < api.MaxCount && Lacks(e, told("k", seenOf(node, n+1), dot(node, n), dot(node, n+1))) {
				t.Error("more:", node, n)
			}
			if n > 1 && !Lacks(e, told("k", seenOf(node, n), dot(node, n-1), dot(node, n))) {
				t.Error("replaced:", node, n)
			}
		}
	}
}

// P13.2: of what may not be, the words hold as they stand.
func TestLacksMayNot(t *testing.T) {
	unsorted := entry("k", seenOf(0, 3), val(0, 3, "x"), val(0, 1, "y"), val(0, 3, "z"))
	for i, c := range []struct {
		e    api.Entry
		d    api.Digest
		want bool
	}{
		{unsorted, told("k", seenOf(0, 3), dot(0, 1), dot(0, 3)), false},
		{unsorted, told("k", seenOf(0, 3), dot(0, 3), dot(0, 1), dot(0, 1)), false},
		{unsorted, told("k", seenOf(0, 3), dot(0, 3), dot(0, 2), dot(0, 1)), true},
		{unsorted, told("k", seenOf(0, 3), dot(0, 4), dot(0, 0), dot(0, -1), dot(-1, 1), dot(api.MaxNodes, 1), dot(math.MaxInt, 1), dot(math.MinInt, 1)), false},
		{entry("k", seenOf(0, -1)), told("k", api.Vector{}), false},
		{entry("k", api.Vector{}), told("k", seenOf(0, -1)), true},
		{entry("k", seenOf(0, math.MaxInt64)), told("k", seenOf(0, math.MaxInt64), dot(0, math.MaxInt64)), true},
		{entry("k", seenOf(0, math.MaxInt64), val(0, math.MaxInt64, "x")), told("k", seenOf(0, math.MaxInt64), dot(0, math.MaxInt64)), false},
		{entry("", seenOf(0, 1)), told("", seenOf(0, 1)), false},
		{entry("", seenOf(0, 1)), told("", seenOf(0, 1), dot(0, 1)), true},
		{entry(longKey+"k", api.Vector{}), told(longKey+"k", api.Vector{}), false},
		{api.Entry{}, api.Digest{}, false},
	} {
		if got := Lacks(c.e, c.d); got != c.want {
			t.Errorf("%d: %s, %s: %v", i, text(c.e), digestText(c.d), got)
		}
	}
}

// sendRow is entries of unlike sizes, by no order.
func sendRow() []api.Entry {
	return []api.Entry{
		entry("d", api.Vector{1}, val(0, 1, "four")),
		entry("b", api.Vector{2, 1}, val(0, 2, strings.Repeat("x", 150)), val(1, 1, "y")),
		entry("a", api.Vector{}),
		entry("c", api.Vector{0, 0, 300}, gone(2, 300)),
	}
}

// P13.2: what is sent: what the other has no digest of, or lacks.
func TestSend(t *testing.T) {
	row := sendRow()
	all := Of(row)
	less := func(key string) []api.Digest {
		return slices.DeleteFunc(slices.Clone(all), func(d api.Digest) bool { return d.Key == key })
	}
	for i, c := range []struct {
		mine   []api.Entry
		theirs []api.Digest
		want   string
	}{
		{nil, nil, ""},
		{[]api.Entry{}, []api.Digest{}, ""},
		{nil, all, ""},
		{row, nil, "dbac"},
		{row, []api.Digest{}, "dbac"},
		{row, all, ""},
		{row, []api.Digest{all[3], all[2], all[1], all[0]}, ""},
		{row, less("a"), "a"},
		{row, less("b"), "b"},
		{row, less("c"), "c"},
		{row, less("d"), "d"},
		{row, append(less("c"), told("e", api.Vector{9}), told("", api.Vector{}), told("cc", api.Vector{0, 0, 300})), "c"},
		// Nothing known of a key is a digest of it.
		{row, append(less("a"), told("a", api.Vector{})), ""},
		{row, append(less("c"), told("c", api.Vector{})), "c"},
		// Dots that are replaced here, or that are new here.
		{row, append(less("b"), told("b", api.Vector{2, 1}, dot(0, 1), dot(0, 2), dot(1, 1))), "b"},
		{row, append(less("b"), told("b", api.Vector{2, 2}, dot(0, 2), dot(1, 2))), ""},
		{row, append(less("b"), told("b", api.Vector{1, 1}, dot(0, 1), dot(1, 1))), "b"},
		{append(row, row[0]), less("d"), "dd"},
	} {
		if got := Send(c.mine, c.theirs, 1000); keysOf(got) != c.want {
			t.Errorf("%d: %q, want %q", i, keysOf(got), c.want)
		}
	}
	if got := Send(row, nil, 1000); texts(got) != texts(row) {
		t.Errorf("%s, want %s", texts(got), texts(row))
	}
	if got := Send(row, all, 1000); len(got) != 0 {
		t.Error(texts(got))
	}
}

// P13.2: of two digests of one key the first counts, wherever they stand.
func TestSendFirst(t *testing.T) {
	row := sendRow()
	all := Of(row)
	for i := range row {
		old := told(row[i].Key, api.Vector{})
		if row[i].Key == "a" {
			continue
		}
		for at := range len(all) + 1 {
			want := ""
			if at <= i {
				want = row[i].Key
			}
			if got := Send(row, slices.Insert(slices.Clone(all), at, old), 1000); keysOf(got) != want {
				t.Errorf("an old one of %q at %d: %q", row[i].Key, at, keysOf(got))
			}
		}
	}
	// Among many that are sorted, too.
	r := rand.New(rand.NewSource(7))
	for range 200 {
		first := map[string]api.Digest{}
		var theirs []api.Digest
		for range 300 {
			d := Of([]api.Entry{some(r, string(rune('a'+r.Intn(20))))})[0]
			if _, there := first[d.Key]; !there {
				first[d.Key] = d
			}
			theirs = append(theirs, d)
		}
		mine := []api.Entry{some(r, string(rune('a'+r.Intn(22))))}
		d, there := first[mine[0].Key]
		if want := !there || Lacks(mine[0], d); (len(Send(mine, theirs, 0)) == 1) != want {
			t.Fatalf("%s against %s: %v", text(mine[0]), digestText(d), !want)
		}
	}
}

// P13.2: so many as there is room for, up to the first that would go beyond, but always the first.
func TestSendRoom(t *testing.T) {
	row := sendRow()
	d, b, a, c := Size(row[0]), Size(row[1]), Size(row[2]), Size(row[3])
	if d != 2+8+1+2+1+5 || b != 2+8+1+2+1+152+2+1+2 || a != 2+8+1 || c != 2+9+1+1+2+1+1 {
		t.Fatal("Size:", d, b, a, c)
	}
	for i, x := range []struct {
		theirs []api.Digest
		most   int
		want   string
	}{
		{nil, math.MaxInt, "dbac"},
		{nil, d + b + a + c + 1, "dbac"},
		{nil, d + b + a + c, "dbac"},
		{nil, d + b + a + c - 1, "dba"},
		{nil, d + b + a, "dba"},
		{nil, d + b + a - 1, "db"},
		{nil, d + b, "db"},
		// a and c would have room: but b is ahead of them.
		{nil, d + b - 1, "d"},
		{nil, d + a + c, "d"},
		{nil, d, "d"},
		{nil, d - 1, "d"},
		{nil, 1, "d"},
		{nil, 0, "d"},
		{nil, -1, "d"},
		{nil, math.MinInt, "d"},
		// What the other has takes no room.
		{Of(row[:1]), b + a + c, "bac"},
		{Of(row[:1]), b + a + c - 1, "ba"},
		{Of(row[:1]), b - 1, "b"},
		{Of(row[:1]), 0, "b"},
		{Of(row[1:2]), d + a + c, "dac"},
		{Of(row[1:2]), d + a + c - 1, "da"},
		{Of(row[:3]), 0, "c"},
		{Of(row), 0, ""},
		{Of(row), -1, ""},
		{Of(row), math.MinInt, ""},
		{Of(row), math.MaxInt, ""},
	} {
		if got := Send(row, x.theirs, x.most); keysOf(got) != x.want {
			t.Errorf("%d: %q, want %q", i, keysOf(got), x.want)
		}
	}
	if got := Send(nil, nil, -1); len(got) != 0 {
		t.Error("nothing:", texts(got))
	}
}

// slowSend is Send by the document's words.
func slowSend(mine []api.Entry, theirs []api.Digest, most int) []api.Entry {
	var lacked, out []api.Entry
	for _, e := range mine {
		at := slices.IndexFunc(theirs, func(d api.Digest) bool { return d.Key == e.Key })
		if at < 0 || Lacks(e, theirs[at]) {
			lacked = append(lacked, e)
		}
	}
	sum := 0
	for i, e := range lacked {
		w := wire.NewWriter(api.MaxBytes)
		sibs.WriteEntry(w, e)
		b, _ := w.Done()
		sum += len(b)
		if i > 0 && sum > most {
			break
		}
		out = append(out, e)
	}
	return out
}

// P13.2: random rows, unsorted, with keys twice, of all sorts of room.
func TestSendByWords(t *testing.T) {
	r := rand.New(rand.NewSource(2))
	cut := 0
	for range 5000 {
		var mine, others []api.Entry
		for range r.Intn(12) {
			mine = append(mine, some(r, string(rune('a'+r.Intn(8)))))
		}
		for range r.Intn(12) {
			others = append(others, some(r, string(rune('a'+r.Intn(8)))))
		}
		most := r.Intn(200) - 20
		want := slowSend(mine, Of(others), most)
		if got := Send(mine, Of(others), most); texts(got) != texts(want) {
			t.Fatalf("%s against %s, %d: %s, want %s", texts(mine), texts(others), most, texts(got), texts(want))
		}
		if len(want) < len(slowSend(mine, Of(others), math.MaxInt)) {
			cut++
		}
	}
	if cut < 1000 {
		t.Errorf("only %d had too little room", cut)
	}
}

// P13.2: rows far longer than nodes have are no trouble, and entries that may not be are handed on as they stand.
func TestSendWrong(t *testing.T) {
	e := entry("", api.Vector{-1}, api.Value{Dot: dot(-1, -1), Data: bytes.Repeat([]byte("x"), 300), Dead: true}, val(99, 0, ""))
	if got := Send([]api.Entry{e, e}, nil, 2*Size(e)); texts(got) != texts([]api.Entry{e, e}) {
		t.Error(texts(got))
	}
	if got := Send([]api.Entry{e}, Of([]api.Entry{e}), 1000); len(got) != 0 {
		t.Error(texts(got))
	}
	var mine []api.Entry
	for i := range 50000 {
		mine = append(mine, entry(fmt.Sprint("k", i), seenOf(0, int64(i+1)), val(0, int64(i+1), "x")))
	}
	theirs := Of(mine[1:])
	slices.Reverse(theirs)
	if got := Send(mine, theirs, math.MaxInt); keysOf(got) != "k0" {
		t.Error(len(got))
	}
	if got := Send(mine, nil, math.MaxInt); texts(got) != texts(mine) {
		t.Error(len(got))
	}
	wide, dots := entry("k", seenOf(0, 100000)), count(0, 1, 100000)
	for i := range dots {
		wide.Sibs.Values = append(wide.Sibs.Values, val(0, int64(100000-i), ""))
	}
	if Lacks(wide, told("k", seenOf(0, 100000), dots...)) {
		t.Error("a wide one lacks of itself")
	}
}

// numSize is how many bytes a Num has, by the document's words.
func numSize(n uint64) int {
	size := 1
	for ; n >= 128; n /= 128 {
		size++
	}
	return size
}

// sizeByWords is how many bytes an entry that may be has.
func sizeByWords(e api.Entry) int {
	size := numSize(uint64(len(e.Key))) + len(e.Key) + numSize(uint64(len(e.Sibs.Values)))
	for _, n := range e.Sibs.Seen {
		size += numSize(2 * uint64(n))
	}
	for _, v := range e.Sibs.Values {
		size += numSize(uint64(v.Dot.Node)) + numSize(2*uint64(v.Dot.N)) + 1 + numSize(uint64(len(v.Data))) + len(v.Data)
	}
	return size
}

// P13.2: Size is how many bytes sibs.WriteEntry writes, of the least, of the most, of any.
func TestSize(t *testing.T) {
	check := func(e api.Entry) int {
		t.Helper()
		w := wire.NewWriter(10 * api.MaxBytes)
		sibs.WriteEntry(w, e)
		b, err := w.Done()
		if err != api.OK || Size(e) != len(b) {
			t.Fatalf("%s: %d, written %d", text(e), Size(e), len(b))
		}
		return len(b)
	}
	for _, e := range append(sendRow(), most(), entry("k", seenOf(0, 63)), entry("k", seenOf(0, 64)), entry(longKey, seenOf(last, api.MaxCount))) {
		if check(e) != sizeByWords(e) {
			t.Errorf("%s: %d, want %d", text(e), Size(e), sizeByWords(e))
		}
	}
	r := rand.New(rand.NewSource(3))
	for range 2000 {
		if e := some(r, "key"[:1+r.Intn(3)]); check(e) != sizeByWords(e) {
			t.Fatalf("%s: %d", text(e), Size(e))
		}
	}
	// What may not be is written as it stands, also beyond the bytes of a message.
	check(api.Entry{})
	check(entry("k", api.Vector{-1, math.MinInt64, math.MaxInt64}, val(-1, -1, "x"), val(math.MaxInt, math.MinInt64, "")))
	check(entry(strings.Repeat("k", 3*api.MaxBytes), api.Vector{}, val(0, 1, strings.Repeat("d", 2*api.MaxBytes))))
	if Size(api.Entry{}) != 10 {
		t.Error("nothing:", Size(api.Entry{}))
	}
}

// written tells the bytes of what is written.
func written(t *testing.T, d api.Digest) []byte {
	t.Helper()
	w := wire.NewWriter(api.MaxBytes)
	Write(w, d)
	b, err := w.Done()
	if err != api.OK {
		t.Fatalf("%s is not written: %v", digestText(d), err)
	}
	return b
}

// raw is bytes in base 16, with blanks.
func raw(t *testing.T, s string) []byte {
	t.Helper()
	b, err := hex.DecodeString(strings.ReplaceAll(s, " ", ""))
	if err != nil {
		t.Fatal(s, err)
	}
	return b
}

// P13.3: the bytes of digests.
func TestWrite(t *testing.T) {
	for _, c := range []struct {
		d    api.Digest
		want string
	}{
		{told("k", api.Vector{}), "01 6b 0000000000000000 00"},
		{told("ab", api.Vector{2, 1}, dot(0, 2), dot(1, 1)), "02 6162 0402000000000000 02 00 04 01 02"},
		{told("\x00", seenOf(last, 64), dot(last, 1), dot(last, 64)), "01 00 00000000000000 8001 02 07 02 07 8001"},
		{told("k", seenOf(0, api.MaxCount), dot(0, api.MaxCount)), "01 6b 808080808040 00000000000000 01 00 808080808040"},
		// What may not be is written as it stands.
		{api.Digest{}, "00 0000000000000000 00"},
		{told("k", seenOf(0, -1), dot(1, -2)), "01 6b 0100000000000000 01 01 03"},
		{told("k", api.Vector{}, dot(128, 0)), "01 6b 0000000000000000 01 8001 00"},
		{told("k", api.Vector{}, dot(-1, 0)), "01 6b 0000000000000000 01 ffffffffffffffffff01 00"},
	} {
		if got := written(t, c.d); !bytes.Equal(got, raw(t, c.want)) {
			t.Errorf("%s: %x, want %s", digestText(c.d), got, c.want)
		}
	}
	b := written(t, Of([]api.Entry{most()})[0])
	if len(b) != 1+api.MaxKey+8*6+1+16*(1+6) {
		t.Error("the most:", len(b))
	}
}

// P13.3: a writer that is nil, or that has too little room.
func TestWriteNone(t *testing.T) {
	for name, d := range right() {
		Write(nil, d)
		b := written(t, d)
		for most := -1; most < len(b); most++ {
			w := wire.NewWriter(most)
			Write(w, d)
			if got, err := w.Done(); err != api.ErrLong || len(got) != 0 {
				t.Errorf("%s in %d: %x, %d", name, most, got, err)
			}
		}
		w := wire.NewWriter(len(b) + 1)
		w.Flag(true)
		Write(w, d)
		if got, err := w.Done(); err != api.OK || !bytes.Equal(got, append([]byte{1}, b...)) {
			t.Errorf("%s behind a flag: %x, %d", name, got, err)
		}
	}
}

// P13.3: what is written is read as it was, whatever stands behind it; a beginning of it is none.
func TestRead(t *testing.T) {
	for name, d := range right() {
		b := written(t, d)
		r := wire.NewReader(append(slices.Clone(b), 1, 0xff))
		got, ok := Read(r)
		if !ok || digestText(got) != digestText(d) || r.Left() != 2 || !r.Flag() {
			t.Errorf("%s: %s, %v, %d left", name, digestText(got), ok, r.Left())
		}
		r = wire.NewReader(append(slices.Clone(b), b...))
		for range 2 {
			if got, ok := Read(r); !ok || digestText(got) != digestText(d) {
				t.Errorf("%s, twice: %s, %v", name, digestText(got), ok)
			}
		}
		if r.End() != api.OK {
			t.Errorf("%s, twice: end %d", name, r.End())
		}
		for i := range b {
			r := wire.NewReader(b[:i])
			if got, ok := Read(r); ok || digestText(got) != nothing || got.Dots != nil || r.End() != api.ErrShort {
				t.Errorf("%s, %d bytes: %s, %v, end %d", name, i, digestText(got), ok, r.End())
			}
		}
	}
}

// P13.3: bytes that are none: the reader has the first error that was met.
func TestReadNone(t *testing.T) {
	const key, seen = "01 6b ", "0402000000000000 "
	for _, c := range []struct {
		what, b string
		want    api.Errno
	}{
		{"nothing", "", api.ErrShort},
		{"a key whose length is no number", "8100 6b" + seen + "00", api.ErrForm},
		{"a key too long", "21" + strings.Repeat("6b", 33) + seen + "00", api.ErrLong},
		{"a key far too long", "ffffffffffffffffff01" + seen + "00", api.ErrLong},
		{"a key that ends early", "02 6b", api.ErrShort},
		{"a count that is no number", key + "8000 02000000000000 00", api.ErrForm},
		{"a count without an end", key + "ffffffffffffffffffff 02000000000000 00", api.ErrForm},
		{"too many dots", key + seen + "11" + strings.Repeat("0002", 17), api.ErrLong},
		{"far too many dots", key + seen + "ffffffffffffffffff01", api.ErrLong},
		{"how many is no number", key + seen + "8100 0002", api.ErrForm},
		{"a node that is no number", key + seen + "01 8000 02", api.ErrForm},
		{"a node without an end", key + seen + "01 ffffffffffffffffff02 02", api.ErrForm},
		{"an event that is no number", key + seen + "01 00 8200", api.ErrForm},
		{"an event that is no number, of the last", key + seen + "02 00 02 00 8400", api.ErrForm},
		{"fewer dots than are told", key + seen + "03 00 02 00 04", api.ErrShort},
		{"an empty key, then no form", "00" + seen + "01 8000 02", api.ErrForm},
		{"a count that may not be, then no form", key + "0100000000000000 01 8000 02", api.ErrForm},
		{"a dot that may not be, then no form", key + seen + "02 09 02 00 8200", api.ErrForm},
	} {
		r := wire.NewReader(raw(t, c.b))
		if got, ok := Read(r); ok || digestText(got) != nothing || got.Dots != nil || r.End() != c.want {
			t.Errorf("%s: %s, %v, end %d, want %d", c.what, digestText(got), ok, r.End(), c.want)
		}
	}
}

// P13.3: what may not be is not read; the reader has taken it, without an error.
func TestReadMayNot(t *testing.T) {
	for name, d := range wrong() {
		r := wire.NewReader(append(written(t, d), 7))
		if got, ok := Read(r); ok || digestText(got) != nothing || got.Dots != nil {
			t.Errorf("%s: %s, %v", name, digestText(got), ok)
		}
		fits := len(d.Key) <= api.MaxKey && len(d.Dots) <= api.MaxValues
		if fits != (r.Left() == 1) {
			t.Errorf("%s: %d left", name, r.Left())
		}
	}
	// Numbers that would be a node, were they cut to fewer bits.
	for _, node := range []string{"8002", "8080808010", "80808080808080808001"} {
		r := wire.NewReader(raw(t, "01 6b 0200000000000000 01"+node+"02"))
		if got, ok := Read(r); ok || digestText(got) != nothing || r.End() != api.OK {
			t.Errorf("node %s: %s, %v, end %d", node, digestText(got), ok, r.End())
		}
	}
}

// P13.3: a reader with an error behind it, and none.
func TestReadBehindError(t *testing.T) {
	broken := wire.NewReader(raw(t, "05 01 6b 0000000000000000 00"))
	broken.Flag()
	for _, r := range []*wire.Reader{broken, nil, {}} {
		end := r.End()
		if end == api.OK {
			end = api.ErrShort
		}
		if got, ok := Read(r); ok || digestText(got) != nothing || got.Dots != nil || r.End() != end {
			t.Errorf("%s, %v, end %d", digestText(got), ok, r.End())
		}
	}
}

// T6: bytes that are read are what writing makes of it, and what is read may be.
func TestReadOneForm(t *testing.T) {
	r := rand.New(rand.NewSource(4))
	read := 0
	for range 20000 {
		b := written(t, Of([]api.Entry{some(r, "k")})[0])
		for range r.Intn(3) {
			b[r.Intn(len(b))] = byte(r.Intn(256) >> r.Intn(8))
		}
		from := wire.NewReader(b)
		d, ok := Read(from)
		if !ok {
			continue
		}
		read++
		if !May(d) {
			t.Fatalf("%x: may not be", b)
		}
		if again := written(t, d); !bytes.Equal(again, b[:len(b)-from.Left()]) {
			t.Fatalf("%x was read, %x is written", b, again)
		}
	}
	if read < 1000 {
		t.Errorf("only %d were read", read)
	}
}

// dataOf is the value of a dot: one and the same at all who have it.
func dataOf(node int, n int64) api.Value {
	if (int64(node)+n)%3 == 0 {
		return gone(node, n)
	}
	return val(node, n, fmt.Sprint(node, ".", n))
}

// some is what may be known of a key, of few dots, so that two of them meet often.
func some(r *rand.Rand, key string) api.Entry {
	e := entry(key, api.Vector{})
	for node := range 3 {
		e.Sibs.Seen[node] = int64(r.Intn(4))
		for n := int64(1); n <= e.Sibs.Seen[node]; n++ {
			if r.Intn(3) > 0 {
				e.Sibs.Values = append(e.Sibs.Values, dataOf(node, n))
			}
		}
	}
	return e
}

// small is all that may be known of a key by two nodes with up to two events each.
func small() []api.Entry {
	var out []api.Entry
	for a := range int64(3) {
		for b := range int64(3) {
			for bits := range 1 << (a + b) {
				e := entry("k", api.Vector{a, b})
				for i := range a + b {
					if bits>>i&1 == 0 {
						continue
					}
					if i < a {
						e.Sibs.Values = append(e.Sibs.Values, dataOf(0, i+1))
					} else {
						e.Sibs.Values = append(e.Sibs.Values, dataOf(1, i-a+1))
					}
				}
				out = append(out, e)
			}
		}
	}
	return out
}

// holdBoth asks P13.4 of two of one key.
func holdBoth(t *testing.T, e, other api.Entry) {
	t.Helper()
	there, here := Lacks(e, Of([]api.Entry{other})[0]), Lacks(other, Of([]api.Entry{e})[0])
	if there == sibs.Leq(e.Sibs, other.Sibs) || here == sibs.Leq(other.Sibs, e.Sibs) {
		t.Fatalf("%s, %s: lacks %v, back %v", text(e), text(other), there, here)
	}
	if same := text(e) == text(other); same != (!there && !here) {
		t.Fatalf("%s, %s: lacks %v, back %v", text(e), text(other), there, here)
	}
	after := sibs.Join(other.Sibs, e.Sibs)
	if there != !sibs.Same(after, other.Sibs) {
		t.Fatalf("%s joined to %s: lacks %v", text(e), text(other), there)
	}
	if joined := (api.Entry{Key: e.Key, Sibs: after}); Lacks(e, Of([]api.Entry{joined})[0]) {
		t.Fatalf("%s joined to %s: it lacks still", text(e), text(other))
	}
}

// P13.4: Lacks is so just where sibs.Leq is not.
func TestLacksIsNotLeq(t *testing.T) {
	all := small()
	if len(all) != 49 {
		t.Fatal(len(all))
	}
	for _, e := range all {
		for _, other := range all {
			holdBoth(t, e, other)
		}
	}
	r := rand.New(rand.NewSource(5))
	for range 20000 {
		holdBoth(t, some(r, "k"), some(r, "k"))
	}
}

// P13.4: also where so many values stand that a join would leave some out.
func TestLacksIsNotLeqOfMany(t *testing.T) {
	r := rand.New(rand.NewSource(6))
	many := func() api.Entry {
		e := entry("k", api.Vector{})
		for node := range 4 {
			e.Sibs.Seen[node] = int64(5 + r.Intn(3))
			for n := int64(1); n <= e.Sibs.Seen[node]; n++ {
				if len(e.Sibs.Values) < api.MaxValues && r.Intn(8) > 0 {
					e.Sibs.Values = append(e.Sibs.Values, dataOf(node, n))
				}
			}
		}
		return e
	}
	for range 20000 {
		e, other := many(), many()
		holdBoth(t, e, other)
		// One that has a little more than the other: so both answers are met.
		more := sibs.Join(e.Sibs, other.Sibs)
		holdBoth(t, e, api.Entry{Key: "k", Sibs: more})
	}
}

// life is what three nodes come to that write, join and reap one key.
func life(r *rand.Rand) [3]api.Entry {
	var out [3]api.Entry
	for i := range out {
		out[i].Key = "k"
	}
	for range 1 + r.Intn(12) {
		i, j := r.Intn(3), r.Intn(3)
		s := &out[i].Sibs
		switch r.Intn(4) {
		case 0, 1:
			dead := r.Intn(3) == 0
			var data []byte
			if !dead {
				data = []byte(fmt.Sprint(i, ".", s.Seen[i]+1))
			}
			var seen api.Vector
			if r.Intn(2) == 0 {
				seen = s.Seen
			}
			if x, err := sibs.Put(*s, seen, i, data, dead); err == api.OK {
				*s = x
			}
		case 2:
			*s = sibs.Join(*s, out[j].Sibs)
		case 3:
			*s = sibs.Reap(*s)
		}
	}
	return out
}

// P13.4: also of what nodes come to by writing, joining and reaping.
func TestLacksOfLives(t *testing.T) {
	r := rand.New(rand.NewSource(8))
	for range 10000 {
		l := life(r)
		for _, a := range l {
			for _, b := range l {
				holdBoth(t, a, b)
			}
		}
	}
}

// tableOf is a table of random entries, of some of so many keys.
func tableOf(t *testing.T, r *rand.Rand, most int) *table.Table {
	t.Helper()
	x := table.New()
	for i := range most {
		if r.Intn(3) > 0 {
			join(t, x, []api.Entry{some(r, fmt.Sprint("k", i))})
		}
	}
	return x
}

// join joins a row of entries, and tells whether that changed something.
func join(t *testing.T, x *table.Table, row []api.Entry) bool {
	t.Helper()
	changed := false
	for _, e := range row {
		_, same, err := x.Join(e)
		if err != api.OK {
			t.Fatal(err)
		}
		changed = changed || !same
	}
	return changed
}

// P13.4: when nothing is to be sent either way both have the same; and what is sent changes the other, so that it comes to that: the join of both.
func TestGrowAlike(t *testing.T) {
	r := rand.New(rand.NewSource(9))
	for range 300 {
		a, b := tableOf(t, r, 8), tableOf(t, r, 8)
		want := a.Copy()
		join(t, want, b.All())
		most := r.Intn(150) - 10
		rounds := 0
		for ; rounds < 100; rounds++ {
			toB := Send(a.All(), Of(b.All()), most)
			toA := Send(b.All(), Of(a.All()), most)
			if same := texts(a.All()) == texts(b.All()); same != (len(toA) == 0 && len(toB) == 0) {
				t.Fatalf("same: %v, %d and %d to send", same, len(toA), len(toB))
			}
			if len(toA) == 0 && len(toB) == 0 {
				break
			}
			if len(toB) > 0 && !join(t, b, toB) || len(toA) > 0 && !join(t, a, toA) {
				t.Fatal("what was sent changed nothing")
			}
		}
		if rounds == 100 || texts(a.All()) != texts(want.All()) {
			t.Fatalf("%d rounds of %d: %s, want %s", rounds, most, texts(a.All()), texts(want.All()))
		}
	}
}

// spoil writes over all that a row of entries holds, up to its capacity.
func spoil(row []api.Entry) {
	row = row[:cap(row)]
	for i := range row {
		values := row[i].Sibs.Values
		values = values[:cap(values)]
		for j := range values {
			data := values[j].Data[:cap(values[j].Data)]
			for k := range data {
				data[k] = '?'
			}
			values[j] = gone(-9, -9)
		}
		row[i] = entry("spoilt", api.Vector{-9})
	}
}

// spoilDigests likewise of digests.
func spoilDigests(row []api.Digest) {
	row = row[:cap(row)]
	for i := range row {
		dots := row[i].Dots[:cap(row[i].Dots)]
		for j := range dots {
			dots[j] = dot(-9, -9)
		}
		row[i] = told("spoilt", api.Vector{-9})
	}
}

// roomy is a row of entries whose lists have more behind their lengths, and a function that tells all of it, what lies behind too.
func roomy() ([]api.Entry, func() string) {
	hidden := val(-7, -7, "hidden")
	var out []api.Entry
	for _, e := range sendRow() {
		for i, v := range e.Sibs.Values {
			e.Sibs.Values[i].Data = append(append([]byte{}, v.Data...), "behind"...)[:len(v.Data)]
		}
		n := len(e.Sibs.Values)
		e.Sibs.Values = append(append([]api.Value{}, e.Sibs.Values...), hidden, hidden)[:n]
		out = append(out, e)
	}
	n := len(out)
	whole := append(out, entry("hidden", api.Vector{-7}, hidden))
	return whole[:n], func() string {
		tell := ""
		for i, e := range whole {
			if i < n {
				e.Sibs.Values = e.Sibs.Values[:len(e.Sibs.Values)+2]
				for j := range len(e.Sibs.Values) - 2 {
					v := e.Sibs.Values[j]
					tell += string(v.Data[:len(v.Data)+len("behind")])
				}
			}
			tell += text(e)
		}
		return tell
	}
}

// R2: what Of and Send tell is the caller's own; what was handed in is neither changed nor kept.
func TestMemory(t *testing.T) {
	row, all := roomy()
	theirs := append(Of(row[1:2]), told("zz", api.Vector{}), told("a", api.Vector{}), told("hidden", api.Vector{-7}))[:3]
	beforeTheirs := digestTexts(theirs[:4])
	before := all()
	digests, sent := Of(row), Send(row, theirs, 1000)
	wantDigests, wantSent := digestTexts(digests), texts(sent)
	if keysOf(sent) != "dc" {
		t.Fatal(keysOf(sent))
	}
	Lacks(row[1], theirs[0])
	Size(row[1])
	May(theirs[0])
	if all() != before || digestTexts(theirs[:4]) != beforeTheirs {
		t.Error("what was handed in has changed")
	}
	spoilDigests(Of(row))
	spoil(Send(row, theirs, 1000))
	if all() != before || digestTexts(theirs[:4]) != beforeTheirs {
		t.Error("writing over an answer changes what was handed in")
	}
	if digestTexts(digests) != wantDigests || texts(sent) != wantSent {
		t.Error("writing over an answer changes another")
	}
	spoil(row)
	spoilDigests(theirs)
	if digestTexts(digests) != wantDigests || texts(sent) != wantSent {
		t.Error("writing over what was handed in changes an answer")
	}
}

// R2: Send neither sorts nor changes the digests that are handed in, wherever they stand.
func TestMemoryOfOrder(t *testing.T) {
	mine := sendRow()
	theirs := []api.Digest{told("z", api.Vector{1}), told("d", api.Vector{}), told("b", api.Vector{}), told("d", api.Vector{5}), told("a", api.Vector{})}
	before := digestTexts(theirs)
	if got := Send(mine, theirs, 1000); keysOf(got) != "dbc" || digestTexts(theirs) != before {
		t.Errorf("%q; %s", keysOf(got), digestTexts(theirs))
	}
	unsorted := entry("k", seenOf(0, 3), val(0, 3, "x"), val(0, 1, "y"))
	d := told("k", seenOf(0, 3), dot(0, 3), dot(0, 1))
	asIs, asTold := text(unsorted), digestText(d)
	if Lacks(unsorted, d) || text(unsorted) != asIs || digestText(d) != asTold {
		t.Errorf("%s; %s", text(unsorted), digestText(d))
	}
}

// R2: no two lists of one answer share memory, even where they were handed in as one.
func TestMemoryApart(t *testing.T) {
	data := []byte("shared")
	e := api.Entry{Key: "k", Sibs: api.Sibs{Seen: seenOf(0, 2), Values: []api.Value{{Dot: dot(0, 1), Data: data}, {Dot: dot(0, 2), Data: data}}}}
	want := text(e)
	sent := Send([]api.Entry{e, e, e}, nil, 1000)
	first := sent[0].Sibs.Values[0].Data
	copy(first[:cap(first)], strings.Repeat("?", 99))
	if string(sent[0].Sibs.Values[1].Data) != "shared" {
		t.Error("two values share their data")
	}
	spoil(sent[:1:1])
	if text(sent[1]) != want || text(sent[2]) != want || text(e) != want {
		t.Error("two entries share memory")
	}
	digests := Of([]api.Entry{e, e})
	wantDigest := digestText(digests[1])
	spoilDigests(digests[:1:1])
	if digestText(digests[1]) != wantDigest || text(e) != want {
		t.Error("two digests share memory")
	}
}

// R2: Write keeps nothing of what it is handed, Read tells what is its caller's own.
func TestMemoryOfForms(t *testing.T) {
	d := told("k", api.Vector{2, 1}, dot(0, 1), dot(0, 2), dot(1, 1), dot(-7, -7))
	d.Dots = d.Dots[:3]
	before := digestText(d)
	w := wire.NewWriter(999)
	Write(w, d)
	if digestText(d) != before || d.Dots[:4][3] != dot(-7, -7) {
		t.Error("Write changed what it was handed")
	}
	spoilDigests([]api.Digest{d})
	b, err := w.Done()
	if err != api.OK {
		t.Fatal(err)
	}
	handed := slices.Clone(b)
	r := wire.NewReader(append(slices.Clone(handed), handed...))
	got, _ := Read(r)
	again, _ := Read(r)
	spoilDigests([]api.Digest{got})
	if digestText(again) != before || !bytes.Equal(handed, b) {
		t.Errorf("what was read: %s, want %s", digestText(again), before)
	}
}

// R6: the same calls tell the same, whatever was called between.
func TestNothingIsKept(t *testing.T) {
	row := sendRow()
	tell := func() string {
		out := digestTexts(Of(row)) + texts(Send(row, Of(row[:1]), 200)) + fmt.Sprint(Size(row[1]))
		for _, name := range slices.Sorted(maps.Keys(right())) {
			out += fmt.Sprint(May(right()[name]), Lacks(row[0], right()[name]))
		}
		return out
	}
	first := tell()
	for name, d := range wrong() {
		May(d)
		Lacks(most(), d)
		Send([]api.Entry{most()}, []api.Digest{d, d}, -5)
		Read(wire.NewReader(written(t, d)))
		if tell() != first {
			t.Fatal(name)
		}
	}
}
