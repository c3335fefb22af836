package sibs

import (
	"bytes"
	"encoding/hex"
	"fmt"
	"math"
	"math/rand"
	"slices"
	"strings"
	"testing"

	"tattler/api"
	"tattler/vector"
	"tattler/wire"
)

const last = api.MaxNodes - 1

// val is a value that is not dead.
func val(node int, n int64, data string) api.Value {
	return api.Value{Dot: api.Dot{Node: node, N: n}, Data: []byte(data)}
}

// gone is a dead value.
func gone(node int, n int64) api.Value {
	return api.Value{Dot: api.Dot{Node: node, N: n}, Dead: true}
}

// known is Sibs of these events and values.
func known(seen api.Vector, values ...api.Value) api.Sibs {
	return api.Sibs{Seen: seen, Values: values}
}

// seenOf is a vector whose one count that is not 0 is n.
func seenOf(node int, n int64) api.Vector {
	var v api.Vector
	v[node] = n
	return v
}

// row is values of a node, numbered from one number up to another.
func row(node int, from, to int64, data string) []api.Value {
	var out []api.Value
	for n := from; n <= to; n++ {
		out = append(out, val(node, n, data))
	}
	return out
}

// text tells Sibs as they stand, by a way of the test's own.
func text(s api.Sibs) string {
	out := fmt.Sprint(s.Seen)
	for _, v := range s.Values {
		out += fmt.Sprintf(" (%d %d) %q %v", v.Dot.Node, v.Dot.N, v.Data, v.Dead)
	}
	return out
}

// nothing is the text of Sibs of which nothing is known.
var nothing = text(api.Sibs{})

// deep is a copy of its own, by a way of the test's own.
func deep(s api.Sibs) api.Sibs {
	out := api.Sibs{Seen: s.Seen}
	for _, v := range s.Values {
		v.Data = append([]byte{}, v.Data...)
		out.Values = append(out.Values, v)
	}
	return out
}

// longData is data of n bytes.
func longData(n int) string { return strings.Repeat("d", n) }

// wrong are Sibs that may not be, each by one fault.
func wrong() map[string]api.Sibs {
	full := seenOf(0, 99)
	out := map[string]api.Sibs{
		"a value too many":                known(full, row(0, 1, api.MaxValues+1, "x")...),
		"many values too many":            known(full, row(0, 1, 99, "x")...),
		"a byte too many":                 known(full, val(0, 1, longData(api.MaxData+1))),
		"a byte too many, of the last":    known(full, val(0, 1, ""), val(0, 2, longData(api.MaxData+1))),
		"dead with data":                  known(full, api.Value{Dot: api.Dot{N: 1}, Data: []byte("x"), Dead: true}),
		"dead with data, the last":        known(full, gone(0, 1), api.Value{Dot: api.Dot{N: 2}, Data: []byte{0}, Dead: true}),
		"a dot twice":                     known(full, val(0, 2, "x"), val(0, 2, "x")),
		"a dot twice, unlike":             known(full, val(0, 2, "x"), gone(0, 2)),
		"dots that fall":                  known(full, val(0, 2, "x"), val(0, 1, "y")),
		"nodes that fall":                 known(api.Vector{5, 5}, val(1, 1, "x"), val(0, 2, "y")),
		"dots that fall at the end":       known(full, val(0, 1, "x"), val(0, 3, "y"), val(0, 2, "z")),
		"not covered by one":              known(seenOf(0, 2), val(0, 3, "x")),
		"not covered, the last":           known(api.Vector{2, 1}, val(0, 2, "x"), val(1, 2, "y")),
		"nothing seen":                    known(api.Vector{}, val(0, 1, "x")),
		"covered at another node":         known(seenOf(1, 9), val(0, 1, "x")),
		"the event 0":                     known(full, val(0, 0, "x")),
		"an event below 0":                known(full, val(0, -1, "x")),
		"an event far below 0":            known(full, val(0, math.MinInt64, "x")),
		"a node below 0":                  known(full, val(-1, 1, "x")),
		"a node above":                    known(full, val(api.MaxNodes, 1, "x")),
		"a node far above":                known(full, val(math.MaxInt, 1, "x")),
		"a node far below":                known(full, val(math.MinInt, 1, "x")),
		"a count below 0, and a value":    known(api.Vector{1, -1}, val(0, 1, "x")),
		"a count above all, and a value":  known(api.Vector{1, api.MaxCount + 1}, val(0, 1, "x")),
		"a count above all, that covers":  known(seenOf(0, math.MaxInt64), val(0, math.MaxInt64, "x")),
		"a count below 0 that would meet": known(seenOf(0, -3), val(0, -3, "x")),
	}
	for node := range api.MaxNodes {
		out[fmt.Sprintf("a count below 0 at %d", node)] = known(seenOf(node, -1))
		out[fmt.Sprintf("a count too great at %d", node)] = known(seenOf(node, api.MaxCount+1))
	}
	return out
}

// right are Sibs that may be, at the edges.
func right() map[string]api.Sibs {
	long := longData(api.MaxData)
	most := api.Sibs{Seen: api.Vector{2, 2, 2, 2, 2, 2, 2, 2}}
	for node := range api.MaxNodes {
		most.Values = append(most.Values, val(node, 1, long), val(node, 2, long))
	}
	return map[string]api.Sibs{
		"nothing":              {},
		"an empty list":        {Values: []api.Value{}},
		"events alone":         known(api.Vector{0, 2, 1}),
		"events up to the end": known(seenOf(last, api.MaxCount)),
		"a value":              known(seenOf(0, 1), val(0, 1, "x")),
		"a value at the end":   known(seenOf(last, api.MaxCount), val(last, api.MaxCount, "x")),
		"a value, more seen":   known(seenOf(3, 9), val(3, 1, "x")),
		"no data":              known(seenOf(0, 1), val(0, 1, "")),
		"any bytes":            known(seenOf(0, 1), val(0, 1, "\x00\xff%\n")),
		"long data":            known(seenOf(0, 1), val(0, 1, long)),
		"dead":                 known(seenOf(0, 1), gone(0, 1)),
		"dead, an empty list":  known(seenOf(0, 1), api.Value{Dot: api.Dot{N: 1}, Data: []byte{}, Dead: true}),
		"some dead":            known(api.Vector{2, 1}, gone(0, 1), val(0, 2, "x"), gone(1, 1)),
		"all dead":             known(api.Vector{2, 1}, gone(0, 1), gone(0, 2), gone(1, 1)),
		"by node, then number": known(api.Vector{5, 0, 2}, val(0, 1, "b"), val(0, 5, "a"), val(2, 1, ""), val(2, 2, "c")),
		"as many as may be":    known(seenOf(0, 99), row(0, 84, 99, "x")...),
		"as much as may be":    most,
	}
}

// P5.1: what may be at the edges, and what may not, one fault each.
func TestMay(t *testing.T) {
	for name, s := range right() {
		if !May(s) {
			t.Errorf("%s: may not be", name)
		}
	}
	for name, s := range wrong() {
		if May(s) {
			t.Errorf("%s: may be", name)
		}
	}
	for n := range api.MaxValues + 3 {
		if got := May(known(seenOf(0, 99), row(0, 1, int64(n), "")...)); got != (n <= 16) {
			t.Errorf("%d values: %v", n, got)
		}
	}
	for _, n := range []int{0, 1, 199, 200, 201, 202, 1000} {
		if got := May(known(seenOf(0, 1), val(0, 1, longData(n)))); got != (n <= 200) {
			t.Errorf("%d bytes: %v", n, got)
		}
		dead := api.Value{Dot: api.Dot{N: 1}, Data: make([]byte, n), Dead: true}
		if got := May(known(seenOf(0, 1), dead)); got != (n == 0) {
			t.Errorf("%d bytes, dead: %v", n, got)
		}
	}
}

// P5.1: an entry has a key of 1 to MaxKey bytes, whichever they are, and Sibs that may be.
func TestMayEntry(t *testing.T) {
	s := known(seenOf(0, 1), val(0, 1, "x"))
	for _, n := range []int{0, 1, 2, 31, 32, 33, 34, 1000} {
		want := n >= 1 && n <= 32
		for _, key := range []string{strings.Repeat("k", n), strings.Repeat("\x00", n), strings.Repeat("\xff", n)} {
			if got := MayEntry(api.Entry{Key: key, Sibs: s}); got != want {
				t.Errorf("a key of %d bytes: %v", n, got)
			}
		}
	}
	if !MayEntry(api.Entry{Key: strings.Repeat("é", 16)}) || MayEntry(api.Entry{Key: strings.Repeat("é", 17)}) {
		t.Error("a key's length is told in bytes")
	}
	for name, s := range right() {
		if !MayEntry(api.Entry{Key: "k", Sibs: s}) {
			t.Errorf("%s: may not be", name)
		}
	}
	for name, s := range wrong() {
		if MayEntry(api.Entry{Key: "k", Sibs: s}) {
			t.Errorf("%s: may be", name)
		}
	}
}

// P5.2: a value stands, if it stands in both, or in one, and the other has not seen it; either way round.
func TestJoin(t *testing.T) {
	a := known(api.Vector{2, 1}, val(0, 2, "x"), val(1, 1, "y"))
	for _, c := range []struct {
		what       string
		a, b, want api.Sibs
	}{
		{"nothing", api.Sibs{}, api.Sibs{}, api.Sibs{}},
		{"with nothing", a, api.Sibs{}, a},
		{"with itself", a, a, a},
		{"each replaced one", a, known(api.Vector{1, 2}, val(0, 1, "w"), val(1, 2, "z")), known(api.Vector{2, 2}, val(0, 2, "x"), val(1, 2, "z"))},
		{"of other nodes", a, known(seenOf(last, 3), val(last, 3, "l")), known(api.Vector{2, 1, 0, 0, 0, 0, 0, 3}, val(0, 2, "x"), val(1, 1, "y"), val(last, 3, "l"))},
		{"side by side of one node", known(seenOf(0, 1), val(0, 1, "x")), known(seenOf(0, 2), val(0, 1, "x"), val(0, 2, "y")), known(seenOf(0, 2), val(0, 1, "x"), val(0, 2, "y"))},
		{"covered just", a, known(seenOf(0, 2)), known(api.Vector{2, 1}, val(1, 1, "y"))},
		{"not covered by one", a, known(seenOf(0, 1)), a},
		{"covered by far", a, known(api.Vector{9, 9}), known(api.Vector{9, 9})},
		{"rows that go between one another",
			known(api.Vector{5, 0, 5}, val(0, 1, "a"), val(0, 4, "b"), val(2, 3, "c")),
			known(api.Vector{0, 4, 2, 2}, val(1, 1, "d"), val(1, 3, "e"), val(3, 1, "f")),
			known(api.Vector{5, 4, 5, 2}, val(0, 1, "a"), val(0, 4, "b"), val(1, 1, "d"), val(1, 3, "e"), val(2, 3, "c"), val(3, 1, "f"))},
		{"dead ones stand too", known(seenOf(0, 1), gone(0, 1)), known(seenOf(1, 1), gone(1, 1)), known(api.Vector{1, 1}, gone(0, 1), gone(1, 1))},
		{"up to the end", known(seenOf(0, api.MaxCount), val(0, api.MaxCount, "x")), known(seenOf(1, api.MaxCount)), known(api.Vector{api.MaxCount, api.MaxCount}, val(0, api.MaxCount, "x"))},
	} {
		if got := Join(c.a, c.b); text(got) != text(c.want) {
			t.Errorf("%s: %s, want %s", c.what, text(got), text(c.want))
		}
		if got := Join(c.b, c.a); text(got) != text(c.want) {
			t.Errorf("%s, the other way: %s, want %s", c.what, text(got), text(c.want))
		}
	}
}

// P5.2: of unlike values of one dot the one stands that is not dead, then the one whose data comes first.
func TestJoinUnlike(t *testing.T) {
	ordered := []api.Value{val(0, 1, ""), val(0, 1, "\x00"), val(0, 1, "\x00\x00"), val(0, 1, "A"), val(0, 1, "a"), val(0, 1, "aa"), val(0, 1, "ab"), val(0, 1, "b"), val(0, 1, "\x7fz"), val(0, 1, "\x80"), val(0, 1, "\xff"), gone(0, 1)}
	for i, x := range ordered {
		for j, y := range ordered {
			// One has seen more than the other: which of them is asked first makes no difference.
			a, b := known(api.Vector{1, 3}, x, val(1, 2, "s")), known(api.Vector{4, 2}, y, val(1, 2, "s"))
			want := known(api.Vector{4, 3}, ordered[min(i, j)], val(1, 2, "s"))
			if got := Join(a, b); text(got) != text(want) {
				t.Errorf("%q %v with %q %v: %s", x.Data, x.Dead, y.Data, y.Dead, text(got))
			}
		}
	}
}

// P5.2: of more than MaxValues the first by dots stand; what does not counts as replaced.
func TestJoinLimit(t *testing.T) {
	for _, c := range []struct {
		what       string
		a, b, want api.Sibs
	}{
		{"as many as may be",
			known(seenOf(0, 15), row(0, 1, 15, "l")...), known(seenOf(1, 1), val(1, 1, "m")),
			known(api.Vector{15, 1}, append(row(0, 1, 15, "l"), val(1, 1, "m"))...)},
		{"one more",
			known(seenOf(0, 16), row(0, 1, 16, "l")...), known(seenOf(1, 1), val(1, 1, "m")),
			known(api.Vector{16, 1}, row(0, 1, 16, "l")...)},
		{"one more, at the beginning",
			known(seenOf(1, 16), row(1, 1, 16, "l")...), known(seenOf(0, 1), val(0, 1, "m")),
			known(api.Vector{1, 16}, append([]api.Value{val(0, 1, "m")}, row(1, 1, 15, "l")...)...)},
		{"twice as many",
			known(seenOf(0, 16), row(0, 1, 16, "l")...), known(seenOf(last, 16), row(last, 1, 16, "m")...),
			known(vector.Join(seenOf(0, 16), seenOf(last, 16)), row(0, 1, 16, "l")...)},
		{"some of either",
			known(seenOf(0, 16), row(0, 5, 16, "l")...), known(seenOf(1, 16), row(1, 1, 16, "m")...),
			known(api.Vector{16, 16}, append(row(0, 5, 16, "l"), row(1, 1, 4, "m")...)...)},
		{"the same ones count once",
			known(seenOf(0, 16), row(0, 1, 16, "l")...), known(seenOf(0, 16), row(0, 1, 16, "l")...),
			known(seenOf(0, 16), row(0, 1, 16, "l")...)},
		{"those that were replaced do not count",
			known(seenOf(0, 16), row(0, 1, 16, "l")...), known(api.Vector{15, 16}, row(1, 2, 16, "m")...),
			known(api.Vector{16, 16}, append(row(0, 16, 16, "l"), row(1, 2, 16, "m")...)...)},
	} {
		for _, got := range []api.Sibs{Join(c.a, c.b), Join(c.b, c.a)} {
			if text(got) != text(c.want) {
				t.Errorf("%s: %s, want %s", c.what, text(got), text(c.want))
			}
			for _, s := range []api.Sibs{c.a, c.b} {
				if again := Join(got, s); text(again) != text(c.want) {
					t.Errorf("%s: what did not stand came back: %s", c.what, text(again))
				}
			}
		}
	}
}

// P5.2: of what may not be, on either side, the join is nothing.
func TestJoinWrong(t *testing.T) {
	a := known(api.Vector{2, 1}, val(0, 2, "x"), val(1, 1, "y"))
	for name, s := range wrong() {
		for _, got := range []api.Sibs{Join(s, a), Join(a, s), Join(s, s), Join(api.Sibs{}, s), Join(s, api.Sibs{})} {
			if text(got) != nothing {
				t.Errorf("%s: %s", name, text(got))
			}
		}
	}
}

// P5.3: the new value stands beside those of s that its writer had not seen, and is numbered behind all.
func TestPut(t *testing.T) {
	a := known(api.Vector{2, 1}, val(0, 2, "x"), val(1, 1, "y"))
	long := longData(api.MaxData)
	for _, c := range []struct {
		what string
		s    api.Sibs
		seen api.Vector
		node int
		data string
		dead bool
		want api.Sibs
	}{
		{"the first", api.Sibs{}, api.Vector{}, 1, "x", false, known(seenOf(1, 1), val(1, 1, "x"))},
		{"the first of the last node", api.Sibs{}, api.Vector{}, last, "", false, known(seenOf(last, 1), val(last, 1, ""))},
		{"a writer who saw nothing", a, api.Vector{}, 1, "n", false, known(api.Vector{2, 2}, val(0, 2, "x"), val(1, 1, "y"), val(1, 2, "n"))},
		{"between others", a, api.Vector{}, 0, "n", false, known(api.Vector{3, 1}, val(0, 2, "x"), val(0, 3, "n"), val(1, 1, "y"))},
		{"ahead of all", known(api.Vector{2, 2}, val(1, 1, "p"), val(1, 2, "q")), api.Vector{}, 0, "n", false, known(api.Vector{3, 2}, val(0, 3, "n"), val(1, 1, "p"), val(1, 2, "q"))},
		{"behind all", a, api.Vector{}, 2, "n", false, known(api.Vector{2, 1, 1}, val(0, 2, "x"), val(1, 1, "y"), val(2, 1, "n"))},
		{"one was seen, just", a, seenOf(0, 2), 2, "n", false, known(api.Vector{2, 1, 1}, val(1, 1, "y"), val(2, 1, "n"))},
		{"none was seen, by one", a, seenOf(0, 1), 2, "n", false, known(api.Vector{2, 1, 1}, val(0, 2, "x"), val(1, 1, "y"), val(2, 1, "n"))},
		{"all were seen", a, api.Vector{2, 1}, 0, "n", false, known(api.Vector{3, 1}, val(0, 3, "n"))},
		{"a delete", a, api.Vector{2, 1}, 0, "", true, known(api.Vector{3, 1}, gone(0, 3))},
		{"a delete of one", a, seenOf(1, 1), 1, "", true, known(api.Vector{2, 2}, val(0, 2, "x"), gone(1, 2))},
		{"more was seen than s has", a, api.Vector{9, 0, 4}, 0, "n", false, known(api.Vector{10, 1, 4}, val(0, 10, "n"), val(1, 1, "y"))},
		{"more was seen of another", a, api.Vector{0, 0, 4}, 2, "n", false, known(api.Vector{2, 1, 5}, val(0, 2, "x"), val(1, 1, "y"), val(2, 5, "n"))},
		{"more was seen, of nothing", api.Sibs{}, seenOf(3, 7), 3, "n", false, known(seenOf(3, 8), val(3, 8, "n"))},
		{"long data", a, api.Vector{2, 1}, 0, long, false, known(api.Vector{3, 1}, val(0, 3, long))},
		{"a dead one is replaced", known(seenOf(0, 1), gone(0, 1)), seenOf(0, 1), 0, "n", false, known(seenOf(0, 2), val(0, 2, "n"))},
		{"a dead one stays", known(seenOf(0, 1), gone(0, 1)), api.Vector{}, 0, "n", false, known(seenOf(0, 2), gone(0, 1), val(0, 2, "n"))},
		{"the last event", known(seenOf(0, api.MaxCount-1)), api.Vector{}, 0, "n", false, known(seenOf(0, api.MaxCount), val(0, api.MaxCount, "n"))},
		{"another is at its end", known(seenOf(0, api.MaxCount)), seenOf(1, api.MaxCount), 2, "n", false, known(api.Vector{api.MaxCount, api.MaxCount, 1}, val(2, 1, "n"))},
	} {
		got, err := Put(c.s, c.seen, c.node, []byte(c.data), c.dead)
		if err != api.OK || text(got) != text(c.want) {
			t.Errorf("%s: %s, %d, want %s", c.what, text(got), err, text(c.want))
		}
	}
	got, err := Put(api.Sibs{}, api.Vector{}, 0, nil, true)
	if want := known(seenOf(0, 1), gone(0, 1)); err != api.OK || text(got) != text(want) {
		t.Errorf("a delete without data: %s, %d", text(got), err)
	}
}

// P5.3: there are at most MaxValues; those that are replaced make room.
func TestPutMany(t *testing.T) {
	var s api.Sibs
	for i := range api.MaxValues {
		data, dead := []byte{byte(i)}, i%5 == 4
		if dead {
			data = nil
		}
		x, err := Put(s, api.Vector{}, i%3, data, dead)
		if err != api.OK || len(x.Values) != i+1 || !May(x) {
			t.Fatalf("value %d: %s, %d", i+1, text(x), err)
		}
		s = x
	}
	for _, dead := range []bool{false, true} {
		if x, err := Put(s, api.Vector{}, 0, nil, dead); err != api.ErrLimit || text(x) != nothing {
			t.Errorf("one more, dead %v: %s, %d", dead, text(x), err)
		}
	}
	if x, err := Put(s, seenOf(7, 3), 7, nil, false); err != api.ErrLimit || text(x) != nothing {
		t.Errorf("one more, of one who saw none of them: %s, %d", text(x), err)
	}
	x, err := Put(s, seenOf(0, 1), 7, []byte("n"), false)
	want := known(vector.With(s.Seen, api.Dot{Node: 7, N: 1}), append(slices.Clone(s.Values[1:]), val(7, 1, "n"))...)
	if err != api.OK || text(x) != text(want) {
		t.Errorf("one for one: %s, %d", text(x), err)
	}
}

// P5.3: what may not be, first; then a counter at its end; then too many; and nothing beside an error.
func TestPutErrors(t *testing.T) {
	end := seenOf(0, api.MaxCount)
	full := known(seenOf(0, 16), row(0, 1, 16, "l")...)
	fullEnd := known(end, row(0, 1, 16, "l")...)
	for _, c := range []struct {
		what string
		s    api.Sibs
		seen api.Vector
		node int
		data string
		dead bool
		want api.Errno
	}{
		{"no node, below", api.Sibs{}, api.Vector{}, -1, "n", false, api.ErrArg},
		{"no node, above", api.Sibs{}, api.Vector{}, api.MaxNodes, "n", false, api.ErrArg},
		{"no node, far below", api.Sibs{}, api.Vector{}, math.MinInt, "n", false, api.ErrArg},
		{"no node, far above", api.Sibs{}, api.Vector{}, math.MaxInt, "n", false, api.ErrArg},
		{"seen below 0", api.Sibs{}, seenOf(3, -1), 0, "n", false, api.ErrArg},
		{"seen too much", api.Sibs{}, seenOf(3, api.MaxCount+1), 0, "n", false, api.ErrArg},
		{"seen too much, of that node", api.Sibs{}, seenOf(0, math.MaxInt64), 0, "n", false, api.ErrArg},
		{"seen below 0, hidden by s", known(seenOf(3, 1)), seenOf(3, -1), 0, "n", false, api.ErrArg},
		{"data too long", api.Sibs{}, api.Vector{}, 0, longData(api.MaxData + 1), false, api.ErrArg},
		{"dead with data", api.Sibs{}, api.Vector{}, 0, "n", true, api.ErrArg},
		{"dead with data too long", api.Sibs{}, api.Vector{}, 0, longData(api.MaxData + 1), true, api.ErrArg},
		{"at the end, of s", known(end), api.Vector{}, 0, "n", false, api.ErrLimit},
		{"at the end, of seen", api.Sibs{}, end, 0, "n", false, api.ErrLimit},
		{"at the end, dead", api.Sibs{}, end, 0, "", true, api.ErrLimit},
		{"at the end of all", fullEnd, end, 0, "n", false, api.ErrLimit},
		{"too many", full, api.Vector{}, 0, "n", false, api.ErrLimit},
		{"too many, at the end", fullEnd, api.Vector{}, 0, "n", false, api.ErrLimit},
		{"no node, too many", full, api.Vector{}, api.MaxNodes, "n", false, api.ErrArg},
		{"no node, at the end", fullEnd, end, -1, "n", false, api.ErrArg},
		{"data too long, at the end", fullEnd, end, 0, longData(api.MaxData + 1), false, api.ErrArg},
		{"dead with data, at the end", fullEnd, end, 0, "n", true, api.ErrArg},
		{"dead with data, too many", full, api.Vector{}, 0, "n", true, api.ErrArg},
		{"seen below 0, at the end", fullEnd, seenOf(7, -1), 0, "n", false, api.ErrArg},
	} {
		if got, err := Put(c.s, c.seen, c.node, []byte(c.data), c.dead); err != c.want || text(got) != nothing {
			t.Errorf("%s: %s, %d, want %d", c.what, text(got), err, c.want)
		}
	}
	for name, s := range wrong() {
		for _, seen := range []api.Vector{{}, end} {
			if got, err := Put(s, seen, 0, nil, false); err != api.ErrArg || text(got) != nothing {
				t.Errorf("%s: %s, %d", name, text(got), err)
			}
		}
	}
}

// P5.4: Leq is so just where the join adds nothing to b.
func TestLeq(t *testing.T) {
	a := known(api.Vector{2, 1}, val(0, 2, "x"), val(1, 1, "y"))
	for _, c := range []struct {
		what   string
		a, b   api.Sibs
		ab, ba bool
	}{
		{"nothing", api.Sibs{}, api.Sibs{}, true, true},
		{"itself", a, deep(a), true, true},
		{"nothing and something", api.Sibs{}, a, true, false},
		{"more events", a, known(api.Vector{2, 2}, val(0, 2, "x"), val(1, 1, "y")), true, false},
		{"a value replaced", a, known(api.Vector{2, 1}, val(0, 2, "x")), true, false},
		{"all replaced", a, known(api.Vector{2, 1}), true, false},
		{"a value more", a, known(api.Vector{2, 1, 1}, val(0, 2, "x"), val(1, 1, "y"), val(2, 1, "z")), true, false},
		{"a value more that the other has replaced", a, known(api.Vector{2, 1}, val(0, 1, "w"), val(0, 2, "x"), val(1, 1, "y")), false, true},
		{"each has what the other has not", a, known(api.Vector{1, 2}, val(1, 2, "z")), false, false},
		{"fewer events, fewer values", a, known(api.Vector{2}, val(0, 2, "x")), false, true},
		{"data that comes first", a, known(api.Vector{2, 1}, val(0, 2, "w"), val(1, 1, "y")), true, false},
		{"dead", a, known(api.Vector{2, 1}, gone(0, 2), val(1, 1, "y")), false, true},
		{"each comes first in one", a, known(api.Vector{2, 1}, val(0, 2, "w"), val(1, 1, "z")), false, false},
	} {
		if got := Leq(c.a, c.b); got != c.ab {
			t.Errorf("%s: %v", c.what, got)
		}
		if got := Leq(c.b, c.a); got != c.ba {
			t.Errorf("%s, the other way: %v", c.what, got)
		}
	}
	for name, s := range wrong() {
		if Leq(s, a) || Leq(a, s) || Leq(s, s) || Leq(api.Sibs{}, s) || Leq(s, api.Sibs{}) {
			t.Errorf("%s: true", name)
		}
	}
}

// P5.4: where the limit cuts, Leq still asks what the join is.
func TestLeqLimit(t *testing.T) {
	full := known(seenOf(0, 16), row(0, 1, 16, "l")...)
	behind := known(seenOf(1, 1), val(1, 1, "m"))
	if Leq(behind, full) || Leq(full, behind) {
		t.Error("an event that was not seen")
	}
	if cut := Join(full, behind); !Leq(behind, cut) || !Leq(full, cut) || Leq(cut, full) || Leq(cut, behind) {
		t.Error("a value that was cut off")
	}
}

// P5.4: Same asks events, dots, deaths and data, also of what may not be.
func TestSame(t *testing.T) {
	all := []api.Sibs{
		{},
		known(api.Vector{2, 1}),
		known(api.Vector{2, 1}, val(0, 2, "x")),
		known(api.Vector{2, 1}, val(0, 2, "x"), val(1, 1, "y")),
		known(api.Vector{2, 1}, val(1, 1, "y"), val(0, 2, "x")),
		known(api.Vector{2, 1}, val(0, 2, "x"), val(0, 2, "x")),
		known(api.Vector{2, 2}, val(0, 2, "x"), val(1, 1, "y")),
		known(api.Vector{2, 1}, val(0, 1, "x"), val(1, 1, "y")),
		known(api.Vector{2, 1}, val(2, 2, "x"), val(1, 1, "y")),
		known(api.Vector{2, 1}, val(0, 2, "z"), val(1, 1, "y")),
		known(api.Vector{2, 1}, val(0, 2, "x"), val(1, 1, "yy")),
		known(api.Vector{2, 1}, val(0, 2, "x"), val(1, 1, "")),
		known(api.Vector{2, 1}, val(0, 2, "x"), gone(1, 1)),
		known(api.Vector{2, 1}, api.Value{Dot: api.Dot{N: 2}, Data: []byte("x"), Dead: true}),
		known(api.Vector{-1}, val(-1, -1, "x")),
		known(api.Vector{-2}, val(-1, -1, "x")),
		known(seenOf(0, 99), row(0, 1, 17, "x")...),
		known(seenOf(0, 99), row(0, 1, 18, "x")...),
	}
	for i, a := range all {
		for j, b := range all {
			if got := Same(a, deep(b)); got != (i == j) {
				t.Errorf("%s and %s: %v", text(a), text(b), got)
			}
		}
	}
	if !Same(api.Sibs{}, api.Sibs{Values: []api.Value{}}) || !Same(known(seenOf(0, 1), gone(0, 1)), known(seenOf(0, 1), api.Value{Dot: api.Dot{N: 1}, Data: []byte{}, Dead: true})) {
		t.Error("nil and empty lists are one")
	}
}

// P5.4: Live is the data of those that are not dead, Dots the dots of all.
func TestLiveDots(t *testing.T) {
	for _, c := range []struct {
		what string
		s    api.Sibs
		live string
		dots string
	}{
		{"nothing", api.Sibs{}, `[]`, `[]`},
		{"no value", known(seenOf(0, 3)), `[]`, `[]`},
		{"one", known(seenOf(0, 3), val(0, 2, "x")), `["x"]`, `[{0 2}]`},
		{"no data lives too", known(seenOf(0, 3), val(0, 2, "")), `[""]`, `[{0 2}]`},
		{"one dead", known(seenOf(0, 3), gone(0, 2)), `[]`, `[{0 2}]`},
		{"all dead", known(api.Vector{1, 1}, gone(0, 1), gone(1, 1)), `[]`, `[{0 1} {1 1}]`},
		{"some dead", known(api.Vector{3, 1}, gone(0, 1), val(0, 2, "b"), gone(0, 3), val(1, 1, "a")), `["b" "a"]`, `[{0 1} {0 2} {0 3} {1 1}]`},
		{"none dead, alike", known(api.Vector{2, 0, 1}, val(0, 1, "z"), val(0, 2, "z"), val(2, 1, "a")), `["z" "z" "a"]`, `[{0 1} {0 2} {2 1}]`},
	} {
		if got := fmt.Sprintf("%q", Live(c.s)); got != c.live {
			t.Errorf("%s: Live %s, want %s", c.what, got, c.live)
		}
		if got := fmt.Sprint(Dots(c.s)); got != c.dots {
			t.Errorf("%s: Dots %s, want %s", c.what, got, c.dots)
		}
	}
	full := known(seenOf(0, 16), row(0, 1, 16, "l")...)
	if len(Live(full)) != 16 || len(Dots(full)) != 16 {
		t.Error("as many as may be")
	}
	for name, s := range wrong() {
		if len(Live(s)) != 0 || len(Dots(s)) != 0 {
			t.Errorf("%s: Live %q, Dots %v", name, Live(s), Dots(s))
		}
	}
}

// P5.4: Reap takes values away only where all are dead.
func TestReap(t *testing.T) {
	for _, c := range []struct {
		what    string
		s, want api.Sibs
	}{
		{"nothing", api.Sibs{}, api.Sibs{}},
		{"no value", known(seenOf(0, 3)), known(seenOf(0, 3))},
		{"one dead", known(api.Vector{3, 1}, gone(0, 2)), known(api.Vector{3, 1})},
		{"all dead", known(api.Vector{1, 1}, gone(0, 1), gone(1, 1)), known(api.Vector{1, 1})},
		{"the first lives", known(api.Vector{1, 1}, val(0, 1, "x"), gone(1, 1)), known(api.Vector{1, 1}, val(0, 1, "x"), gone(1, 1))},
		{"the last lives", known(api.Vector{1, 1}, gone(0, 1), val(1, 1, "x")), known(api.Vector{1, 1}, gone(0, 1), val(1, 1, "x"))},
		{"one without data lives", known(seenOf(0, 1), val(0, 1, "")), known(seenOf(0, 1), val(0, 1, ""))},
		{"none dead", known(api.Vector{1, 1}, val(0, 1, "x"), val(1, 1, "y")), known(api.Vector{1, 1}, val(0, 1, "x"), val(1, 1, "y"))},
	} {
		if got := Reap(c.s); text(got) != text(c.want) {
			t.Errorf("%s: %s, want %s", c.what, text(got), text(c.want))
		}
	}
	for name, s := range wrong() {
		if got := Reap(s); text(got) != nothing {
			t.Errorf("%s: %s", name, text(got))
		}
	}
}

// written is the bytes that writing makes.
func written(t *testing.T, write func(w *wire.Writer)) []byte {
	t.Helper()
	w := wire.NewWriter(1 << 20)
	write(w)
	b, err := w.Done()
	if err != api.OK {
		t.Fatalf("Done: %d", err)
	}
	return b
}

// raw is the bytes that a text of base 16 tells; blanks are for the eye.
func raw(t *testing.T, text string) []byte {
	t.Helper()
	b, err := hex.DecodeString(strings.ReplaceAll(text, " ", ""))
	if err != nil {
		t.Fatal(err)
	}
	return b
}

// P5.5: the bytes of Sibs and entries.
func TestWrite(t *testing.T) {
	for _, c := range []struct {
		s    api.Sibs
		want string
	}{
		{api.Sibs{}, "0000000000000000 00"},
		{known(api.Vector{2, 1}), "0402000000000000 00"},
		{known(api.Vector{2, 1}, val(0, 2, "xy"), gone(1, 1)), "0402000000000000 02 00 04 00 02 7879 01 02 01 00"},
		{known(seenOf(last, 64), val(last, 64, "")), "00000000000000 8001 01 07 8001 00 00"},
		{known(seenOf(0, api.MaxCount), val(0, api.MaxCount, "a")), "808080808040 00000000000000 01 00 808080808040 00 01 61"},
	} {
		got := written(t, func(w *wire.Writer) { Write(w, c.s) })
		if !bytes.Equal(got, raw(t, c.want)) {
			t.Errorf("%s: %x, want %s", text(c.s), got, c.want)
		}
		got = written(t, func(w *wire.Writer) { WriteEntry(w, api.Entry{Key: "k\xff", Sibs: c.s}) })
		if !bytes.Equal(got, raw(t, "02 6b ff"+c.want)) {
			t.Errorf("an entry of %s: %x, want %s", text(c.s), got, c.want)
		}
	}
	Write(nil, known(seenOf(0, 1), val(0, 1, "x")))
	WriteEntry(nil, api.Entry{Key: "k"})
	for room := range 21 {
		w := wire.NewWriter(room)
		WriteEntry(w, api.Entry{Key: "k", Sibs: known(seenOf(0, 1), val(0, 1, "xyz"))})
		if b, err := w.Done(); (err == api.OK) != (room >= 18) || (err == api.OK) != (len(b) == 18) {
			t.Errorf("room of %d: %x, %d", room, b, err)
		}
	}
}

// P5.5, T6: what was written is read as it was, and the reader stands behind it; bytes that end early are none.
func TestReadBack(t *testing.T) {
	for name, s := range right() {
		b := written(t, func(w *wire.Writer) { Write(w, s) })
		r := wire.NewReader(append(slices.Clone(b), 0xff, 0xff))
		if got, ok := Read(r); !ok || text(got) != text(s) || r.Left() != 2 {
			t.Errorf("%s: %s, %v, %d left", name, text(got), ok, r.Left())
		}
		r = wire.NewReader(b)
		if _, ok := Read(r); !ok || r.End() != api.OK {
			t.Errorf("%s: %v, end %d", name, ok, r.End())
		}
		for i := range b {
			r := wire.NewReader(b[:i])
			if got, ok := Read(r); ok || text(got) != nothing || r.End() != api.ErrShort {
				t.Errorf("%s, %d bytes: %s, %v, end %d", name, i, text(got), ok, r.End())
			}
		}
		for _, key := range []string{"k", "\x00", strings.Repeat("k", api.MaxKey)} {
			b := written(t, func(w *wire.Writer) { WriteEntry(w, api.Entry{Key: key, Sibs: s}) })
			r := wire.NewReader(append(slices.Clone(b), 0xff))
			if got, ok := ReadEntry(r); !ok || got.Key != key || text(got.Sibs) != text(s) || r.Left() != 1 {
				t.Errorf("%s of %q: %s, %v, %d left", name, key, text(got.Sibs), ok, r.Left())
			}
			for i := range b {
				r := wire.NewReader(b[:i])
				if got, ok := ReadEntry(r); ok || got.Key != "" || text(got.Sibs) != nothing || r.End() != api.ErrShort {
					t.Errorf("%s of %q, %d bytes: %v, end %d", name, key, i, ok, r.End())
				}
			}
		}
	}
}

// P5.5: bytes that are no form: the reader has an error then, the first that was met.
func TestReadNone(t *testing.T) {
	const seen = "0402000000000000 "
	tooLong := "c901" + strings.Repeat("64", api.MaxData+1)
	for _, c := range []struct {
		what, b string
		want    api.Errno
	}{
		{"nothing", "", api.ErrShort},
		{"a count that is no number", "8000 02000000000000 00", api.ErrForm},
		{"a count without an end", "ffffffffffffffffffff 02000000000000 00", api.ErrForm},
		{"too many values", seen + "11" + strings.Repeat("00020000", 17), api.ErrLong},
		{"far too many values", seen + "ffffffffffffffffff01", api.ErrLong},
		{"how many is no number", seen + "8100 00 02 00 00", api.ErrForm},
		{"a node that is no number", seen + "01 8000 02 00 00", api.ErrForm},
		{"an event that is no number", seen + "01 00 8200 00 00", api.ErrForm},
		{"a flag that is none", seen + "01 00 02 02 00", api.ErrForm},
		{"a flag that is none, of the second", seen + "02 00 02 00 00 00 04 ff 00", api.ErrForm},
		{"a text that is too long", seen + "01 00 02 00" + tooLong, api.ErrLong},
		{"a dead one's text that is too long", seen + "01 00 02 01" + tooLong, api.ErrLong},
		{"a text that is too long and short", seen + "01 00 02 00 c901", api.ErrLong},
		{"a text that ends early", seen + "01 00 02 00 02 61", api.ErrShort},
		{"a text whose length is no number", seen + "01 00 02 00 8000", api.ErrForm},
		{"a count that may not be, then no form", "0100000000000000 01 00 02 02 00", api.ErrForm},
	} {
		r := wire.NewReader(raw(t, c.b))
		if got, ok := Read(r); ok || text(got) != nothing || r.End() != c.want {
			t.Errorf("%s: %s, %v, end %d, want %d", c.what, text(got), ok, r.End(), c.want)
		}
		r = wire.NewReader(raw(t, "016b"+c.b))
		if got, ok := ReadEntry(r); ok || got.Key != "" || text(got.Sibs) != nothing || r.End() != c.want {
			t.Errorf("an entry, %s: %s, %v, end %d, want %d", c.what, text(got.Sibs), ok, r.End(), c.want)
		}
	}
	for b, want := range map[string]api.Errno{
		"21" + strings.Repeat("6b", 33) + "0000000000000000 00": api.ErrLong,
		"8100 6b 0000000000000000 00":                           api.ErrForm,
		"02 6b":                                                 api.ErrShort,
	} {
		r := wire.NewReader(raw(t, b))
		if got, ok := ReadEntry(r); ok || got.Key != "" || text(got.Sibs) != nothing || r.End() != want {
			t.Errorf("a key of %s: %q, %v, end %d", b, got.Key, ok, r.End())
		}
	}
}

// P5.5: what may not be is written as it stands and is not read; the reader has taken it, without an error.
func TestReadMayNot(t *testing.T) {
	for name, s := range wrong() {
		b := written(t, func(w *wire.Writer) { Write(w, s) })
		r := wire.NewReader(append(b, 7))
		got, ok := Read(r)
		if ok || text(got) != nothing {
			t.Errorf("%s: %s, %v", name, text(got), ok)
		}
		if fits(s) && r.Left() != 1 {
			t.Errorf("%s: %d left", name, r.Left())
		}
		r = wire.NewReader(written(t, func(w *wire.Writer) { WriteEntry(w, api.Entry{Key: "k", Sibs: s}) }))
		if got, ok := ReadEntry(r); ok || got.Key != "" || text(got.Sibs) != nothing {
			t.Errorf("an entry, %s: %s, %v", name, text(got.Sibs), ok)
		}
	}
	for _, b := range []string{"0200000000000000 01 8001 02 00 00", "0200000000000000 01 ffffffffffffffffff01 02 00 00", "0200000000000000 01 80808080808080808001 02 00 00"} {
		r := wire.NewReader(raw(t, b))
		if got, ok := Read(r); ok || text(got) != nothing || r.End() != api.OK {
			t.Errorf("%s: %s, %v, end %d", b, text(got), ok, r.End())
		}
	}
	r := wire.NewReader(raw(t, "00 0000000000000000 00"))
	if got, ok := ReadEntry(r); ok || got.Key != "" || r.End() != api.OK {
		t.Errorf("an empty key: %q, %v, end %d", got.Key, ok, r.End())
	}
}

// fits tells whether s has no more than a reader takes.
func fits(s api.Sibs) bool {
	return len(s.Values) <= api.MaxValues && !slices.ContainsFunc(s.Values, func(v api.Value) bool { return len(v.Data) > api.MaxData })
}

// P5.5: a reader with an error behind it, and none.
func TestReadBehindError(t *testing.T) {
	broken := func() *wire.Reader {
		r := wire.NewReader(raw(t, "05 0000000000000000 00"))
		r.Flag()
		return r
	}
	for _, r := range []*wire.Reader{broken(), nil} {
		end := r.End()
		if got, ok := Read(r); ok || text(got) != nothing || r.End() != end {
			t.Errorf("Read: %s, %v, end %d", text(got), ok, r.End())
		}
		if got, ok := ReadEntry(r); ok || got.Key != "" || text(got.Sibs) != nothing || r.End() != end {
			t.Errorf("ReadEntry: %s, %v, end %d", text(got.Sibs), ok, r.End())
		}
	}
}

// T6: bytes that are read are what writing makes of it.
func TestReadOneForm(t *testing.T) {
	rnd := rand.New(rand.NewSource(5))
	read := 0
	for range 20000 {
		b := written(t, func(w *wire.Writer) { WriteEntry(w, api.Entry{Key: "k", Sibs: some(rnd)}) })
		for range rnd.Intn(3) {
			b[rnd.Intn(len(b))] = byte(rnd.Intn(256) >> rnd.Intn(8))
		}
		r := wire.NewReader(b)
		e, ok := ReadEntry(r)
		if !ok {
			continue
		}
		read++
		if !MayEntry(e) {
			t.Fatalf("%x: may not be", b)
		}
		if again := written(t, func(w *wire.Writer) { WriteEntry(w, e) }); !bytes.Equal(again, b[:len(b)-r.Left()]) {
			t.Fatalf("%x was read, %x is written", b, again)
		}
	}
	if read < 1000 {
		t.Errorf("only %d were read", read)
	}
}

// some is Sibs that may be, of few dots, so that two of them meet often.
func some(r *rand.Rand) api.Sibs {
	var s api.Sibs
	for node := range 3 {
		s.Seen[node] = int64(r.Intn(4))
		for n := int64(1); n <= s.Seen[node]; n++ {
			switch r.Intn(5) {
			case 0:
				s.Values = append(s.Values, gone(node, n))
			case 1, 2:
				s.Values = append(s.Values, val(node, n, []string{"", "a", "ab", "b"}[r.Intn(4)]))
			}
		}
	}
	return s
}

// small is all Sibs of one node with up to two events, each of them replaced, dead, or with one of two data.
func small() []api.Sibs {
	states := [][]api.Value{{}, {gone(0, 1)}, {val(0, 1, "a")}, {val(0, 1, "b")}}
	out := []api.Sibs{{}}
	for _, one := range states {
		out = append(out, known(seenOf(0, 1), one...))
		for _, two := range states {
			l := slices.Clone(one)
			for _, v := range two {
				v.Dot.N = 2
				l = append(l, v)
			}
			out = append(out, known(seenOf(0, 2), l...))
		}
	}
	return out
}

// find is the value of a dot.
func find(s api.Sibs, d api.Dot) (api.Value, bool) {
	for _, v := range s.Values {
		if v.Dot == d {
			return v, true
		}
	}
	return api.Value{}, false
}

// slowJoin is the join by the document's words, dot by dot.
func slowJoin(a, b api.Sibs) api.Sibs {
	out := api.Sibs{Seen: vector.Join(a.Seen, b.Seen)}
	for node := range api.MaxNodes {
		for n := int64(1); n <= out.Seen[node]; n++ {
			d := api.Dot{Node: node, N: n}
			x, inA := find(a, d)
			y, inB := find(b, d)
			switch {
			case inA && inB && (x.Dead && !y.Dead || x.Dead == y.Dead && string(y.Data) < string(x.Data)), inB && !inA && n > a.Seen[node]:
				out.Values = append(out.Values, y)
			case inA && inB, inA && n > b.Seen[node]:
				out.Values = append(out.Values, x)
			}
		}
	}
	out.Values = out.Values[:min(len(out.Values), 16)]
	return out
}

// many is Sibs with so many values that two of them go beyond the limit.
func many(r *rand.Rand) api.Sibs {
	var s api.Sibs
	for node := range 4 {
		s.Seen[node] = int64(r.Intn(9))
		for n := int64(1); n <= s.Seen[node]; n++ {
			if len(s.Values) < api.MaxValues && r.Intn(8) > 0 {
				s.Values = append(s.Values, val(node, n, string(rune('a'+r.Intn(2)))))
			}
		}
	}
	return s
}

// P5.2: the merged rows are what the document's words make dot by dot, also beyond the limit; both ways.
func TestJoinByWords(t *testing.T) {
	rnd := rand.New(rand.NewSource(1))
	cut := 0
	for i := range 20000 {
		a, b := some(rnd), some(rnd)
		if i%2 == 0 {
			a, b = many(rnd), many(rnd)
		}
		got, want := Join(a, b), slowJoin(a, b)
		if text(got) != text(want) || text(Join(b, a)) != text(want) {
			t.Fatalf("%s with %s: %s, want %s", text(a), text(b), text(got), text(want))
		}
		if !May(got) {
			t.Fatalf("%s may not be", text(got))
		}
		if len(got.Values) == api.MaxValues {
			cut++
		}
	}
	if cut < 1000 {
		t.Errorf("the limit was met only %d times", cut)
	}
}

// joinLaws asks P5.6 of three.
func joinLaws(t *testing.T, a, b, c api.Sibs) {
	t.Helper()
	if text(Join(a, b)) != text(Join(b, a)) {
		t.Fatalf("both ways: %s, %s", text(a), text(b))
	}
	if text(Join(Join(a, b), c)) != text(Join(a, Join(b, c))) {
		t.Fatalf("in any order: %s, %s, %s", text(a), text(b), text(c))
	}
	if text(Join(a, a)) != text(a) || !Leq(a, a) {
		t.Fatalf("of itself: %s", text(a))
	}
	if !Leq(a, Join(a, b)) || Leq(a, b) && Leq(b, a) && !Same(a, b) || Leq(a, b) && Leq(b, c) && !Leq(a, c) {
		t.Fatalf("an order: %s, %s, %s", text(a), text(b), text(c))
	}
	if Leq(a, c) && Leq(b, c) && !Leq(Join(a, b), c) {
		t.Fatalf("the least above: %s, %s, %s", text(a), text(b), text(c))
	}
}

// P5.6: Join goes both ways, in any order, of one and itself; Leq is an order.
func TestJoinLaws(t *testing.T) {
	all := small()
	for _, a := range all {
		for _, b := range all {
			for _, c := range all {
				joinLaws(t, a, b, c)
			}
		}
	}
	rnd := rand.New(rand.NewSource(2))
	for range 20000 {
		joinLaws(t, some(rnd), some(rnd), some(rnd))
	}
}

// P5.6: s is Leq of what Put makes of it, and of Reap; what Put makes goes beyond it.
func TestGrows(t *testing.T) {
	rnd := rand.New(rand.NewSource(3))
	for range 20000 {
		s, node, dead := some(rnd), rnd.Intn(api.MaxNodes), rnd.Intn(3) == 0
		seen := some(rnd).Seen
		var data []byte
		if !dead {
			data = []byte("n")
		}
		x, err := Put(s, seen, node, data, dead)
		if err != api.OK || !May(x) || !Leq(s, x) || Leq(x, s) || !vector.Leq(seen, x.Seen) {
			t.Fatalf("Put to %s by one who saw %v: %s, %d", text(s), seen, text(x), err)
		}
		dot := api.Dot{Node: node, N: max(s.Seen[node], seen[node]) + 1}
		v, ok := find(x, dot)
		if !ok || string(v.Data) != string(data) || v.Dead != dead {
			t.Fatalf("Put to %s by one who saw %v: %s, without %v", text(s), seen, text(x), dot)
		}
		for _, v := range s.Values {
			if _, stays := find(x, v.Dot); stays == vector.Covers(seen, v.Dot) {
				t.Fatalf("Put to %s by one who saw %v: %s", text(s), seen, text(x))
			}
		}
		if y := Reap(s); !May(y) || !Leq(s, y) || y.Seen != s.Seen || text(Reap(y)) != text(y) {
			t.Fatalf("Reap of %s: %s", text(s), text(y))
		}
	}
}

// P5.7: a value that stands in neither does not stand in the join, also beyond the limit.
func TestNothingNew(t *testing.T) {
	rnd := rand.New(rand.NewSource(4))
	for range 20000 {
		a, b := many(rnd), many(rnd)
		for _, v := range Join(a, b).Values {
			x, inA := find(a, v.Dot)
			y, inB := find(b, v.Dot)
			if (!inA || text(known(a.Seen, x)) != text(known(a.Seen, v))) && (!inB || text(known(a.Seen, y)) != text(known(a.Seen, v))) {
				t.Fatalf("%s with %s: (%d %d) %q", text(a), text(b), v.Dot.Node, v.Dot.N, v.Data)
			}
		}
	}
}

// P5.7: what was reaped never comes back by what was Leq, whichever way and through whom it comes.
func TestReapedStays(t *testing.T) {
	rnd := rand.New(rand.NewSource(6))
	met := 0
	for range 20000 {
		s := some(rnd)
		for i := range s.Values {
			s.Values[i] = gone(s.Values[i].Dot.Node, s.Values[i].Dot.N)
		}
		old, other := some(rnd), some(rnd)
		if !Leq(old, s) {
			old = known(s.Seen, s.Values...)
		} else if len(old.Values) > 0 {
			met++
		}
		reaped := Reap(s)
		for _, got := range []api.Sibs{Join(reaped, old), Join(old, reaped), Join(reaped, s)} {
			if text(got) != text(reaped) {
				t.Fatalf("%s, reaped, with %s: %s", text(s), text(old), text(got))
			}
		}
		for _, v := range Join(Join(old, other), reaped).Values {
			if _, was := find(s, v.Dot); was {
				t.Fatalf("%s, reaped, with %s and %s: (%d %d) came back", text(s), text(old), text(other), v.Dot.Node, v.Dot.N)
			}
		}
	}
	if met < 100 {
		t.Errorf("only %d older ones with values", met)
	}
}

// spoil writes over all that a list of values holds, up to its capacity.
func spoil(s api.Sibs) {
	s.Values = s.Values[:cap(s.Values)]
	for i := range s.Values {
		data := s.Values[i].Data[:cap(s.Values[i].Data)]
		for j := range data {
			data[j] = '?'
		}
		s.Values[i] = api.Value{Dot: api.Dot{Node: -9, N: -9}, Data: []byte("spoilt"), Dead: true}
	}
}

// roomy is a copy of s whose lists have more behind their lengths, and a function that tells whether that is as it was.
func roomy(s api.Sibs) (api.Sibs, func() bool) {
	hidden := val(-7, -7, "hidden")
	out := api.Sibs{Seen: s.Seen}
	for _, v := range s.Values {
		v.Data = append(append([]byte{}, v.Data...), "behind"...)[:len(v.Data)]
		out.Values = append(out.Values, v)
	}
	n := len(out.Values)
	out.Values = append(out.Values, hidden, hidden)[:n]
	return out, func() bool {
		whole := out.Values[:n+2]
		for _, v := range whole[:n] {
			if string(v.Data[:len(v.Data)+6][len(v.Data):]) != "behind" {
				return false
			}
		}
		return text(known(s.Seen, whole[n], whole[n+1])) == text(known(s.Seen, hidden, hidden))
	}
}

// R2: what Join, Put, Reap tell is the caller's own, and what was handed in is not changed nor kept.
func TestMemory(t *testing.T) {
	first := known(api.Vector{3, 1}, val(0, 1, "one"), val(0, 3, ""), val(1, 1, "two"))
	second := known(api.Vector{2, 2, 1}, val(0, 1, "one"), val(1, 2, "three"), gone(2, 1))
	for name, call := range map[string]func(a, b api.Sibs, data []byte) api.Sibs{
		"Join":       func(a, b api.Sibs, data []byte) api.Sibs { return Join(a, b) },
		"Join of it": func(a, b api.Sibs, data []byte) api.Sibs { return Join(a, a) },
		"Join of nothing": func(a, b api.Sibs, data []byte) api.Sibs {
			return Join(api.Sibs{}, a)
		},
		"Put": func(a, b api.Sibs, data []byte) api.Sibs {
			s, _ := Put(a, b.Seen, 1, data, false)
			return s
		},
		"Put beside all": func(a, b api.Sibs, data []byte) api.Sibs {
			s, _ := Put(a, api.Vector{}, 0, data, false)
			return s
		},
		"Reap":           func(a, b api.Sibs, data []byte) api.Sibs { return Reap(a) },
		"Reap of a part": func(a, b api.Sibs, data []byte) api.Sibs { return Reap(b) },
	} {
		want := text(call(deep(first), deep(second), []byte("data")))
		a, asA := roomy(first)
		b, asB := roomy(second)
		data := []byte("data, and more")[:4]
		got, other := call(a, b, data), call(a, b, data)
		if text(a) != text(first) || text(b) != text(second) || !asA() || !asB() || string(data[:14]) != "data, and more" {
			t.Errorf("%s changed what it was handed", name)
		}
		spoil(got)
		if text(a) != text(first) || text(b) != text(second) || !asA() || !asB() || string(data[:14]) != "data, and more" {
			t.Errorf("%s: writing over the answer changes what was handed in", name)
		}
		if text(other) != want {
			t.Errorf("%s: writing over an answer changes another: %s", name, text(other))
		}
		spoil(a)
		spoil(b)
		copy(data, "????")
		if text(other) != want {
			t.Errorf("%s: writing over what was handed in changes the answer: %s", name, text(other))
		}
	}
}

// R2: no two lists of one answer share memory, even where they were handed in as one.
func TestMemoryApart(t *testing.T) {
	data := []byte("shared")
	s := api.Sibs{Seen: seenOf(0, 2), Values: []api.Value{{Dot: api.Dot{N: 1}, Data: data}, {Dot: api.Dot{N: 2}, Data: data}}}
	put, _ := Put(s, api.Vector{}, 0, data, false)
	for name, got := range map[string]api.Sibs{"Join": Join(s, s), "Put": put, "Reap": Reap(s)} {
		l := got.Values[0].Data
		l = l[:cap(l)]
		for i := range l {
			l[i] = '?'
		}
		for _, v := range got.Values[1:] {
			if string(v.Data) != "shared" {
				t.Errorf("%s: two values share their data", name)
			}
		}
	}
	live := Live(s)
	copy(live[0][:cap(live[0])], strings.Repeat("?", 99))
	if string(live[1]) != "shared" || string(data) != "shared" {
		t.Error("Live: two share their data")
	}
}

// R2: Live, Dots, Read tell lists of their own; Write keeps nothing.
func TestMemoryOfParts(t *testing.T) {
	s, as := roomy(known(api.Vector{3, 1}, val(0, 1, "one"), gone(0, 2), val(1, 1, "two")))
	before := text(s)
	live, dots := Live(s), Dots(s)
	live[0][0], dots[0].N = '?', 99
	_ = append(live[0], "????????"...)
	if text(s) != before || !as() || string(Live(s)[0]) != "one" || Dots(s)[0].N != 1 {
		t.Error("writing over Live and Dots changes what was handed in")
	}
	live, dots = Live(s), Dots(s)
	w := wire.NewWriter(999)
	WriteEntry(w, api.Entry{Key: "k", Sibs: s})
	if text(s) != before || !as() {
		t.Error("Write changed what it was handed")
	}
	spoil(s)
	if fmt.Sprintf("%q %v", live, dots) != `["one" "two"] [{0 1} {0 2} {1 1}]` {
		t.Errorf("writing over what was handed in changes the answers: %q %v", live, dots)
	}
	b, _ := w.Done()
	handed := slices.Clone(b)
	r := wire.NewReader(handed)
	got, _ := ReadEntry(r)
	again, _ := ReadEntry(wire.NewReader(handed))
	clear(handed)
	spoil(got.Sibs)
	if got.Key != "k" || again.Key != "k" || text(again.Sibs) != before {
		t.Errorf("what was read: %s, want %s", text(again.Sibs), before)
	}
}
