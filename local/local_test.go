package local

import (
	"encoding/binary"
	"fmt"
	"hash/crc32"
	"maps"
	"math"
	"math/rand"
	"slices"
	"strings"
	"testing"

	"tattler/api"
	"tattler/disk"
	"tattler/sibs"
)

// val is a value that is not dead.
func val(node int, n int64, data string) api.Value {
	return api.Value{Dot: api.Dot{Node: node, N: n}, Data: []byte(data)}
}

// gone is a dead value.
func gone(node int, n int64) api.Value {
	return api.Value{Dot: api.Dot{Node: node, N: n}, Dead: true}
}

// known is Sibs of these events and values.
func known(seen api.Vector, values ...api.Value) api.Sibs {
	return api.Sibs{Seen: seen, Values: values}
}

// entry is what is known of a key.
func entry(key string, seen api.Vector, values ...api.Value) api.Entry {
	return api.Entry{Key: key, Sibs: known(seen, values...)}
}

// hint is what is kept for a node of a key.
func hint(node int, key string, seen api.Vector, values ...api.Value) api.Hint {
	return api.Hint{For: node, Entry: entry(key, seen, values...)}
}

// text tells Sibs as they stand, by a way of the test's own.
func text(s api.Sibs) string {
	out := fmt.Sprint(s.Seen)
	for _, v := range s.Values {
		out += fmt.Sprintf(" (%d %d) %q %v", v.Dot.Node, v.Dot.N, v.Data, v.Dead)
	}
	return out
}

// zero is the text of Sibs of which nothing is known.
var zero = text(api.Sibs{})

// texts tells rows of entries and hints.
func texts(entries []api.Entry, hints []api.Hint) string {
	out := ""
	for _, e := range entries {
		out += fmt.Sprintf("%q: %s\n", e.Key, text(e.Sibs))
	}
	for _, h := range hints {
		out += fmt.Sprintf("for %d %q: %s\n", h.For, h.Entry.Key, text(h.Entry.Sibs))
	}
	return out
}

// all tells what a store knows and keeps.
func all(s *Store) string {
	return texts(s.All(), s.Hints())
}

// num, integer and chars are the forms of wire, by the library's own means.
func num(n uint64) string    { return string(binary.AppendUvarint(nil, n)) }
func integer(n int64) string { return string(binary.AppendVarint(nil, n)) }
func chars(s string) string  { return num(uint64(len(s))) + s }

// sibsBytes are Sibs as they stand in a record.
func sibsBytes(s api.Sibs) string {
	out := ""
	for _, n := range s.Seen {
		out += integer(n)
	}
	out += num(uint64(len(s.Values)))
	for _, v := range s.Values {
		dead := "\x00"
		if v.Dead {
			dead = "\x01"
		}
		out += num(uint64(v.Dot.Node)) + integer(v.Dot.N) + dead + chars(string(v.Data))
	}
	return out
}

// The records of the four kinds.
func entryRow(e api.Entry) string { return "\x01" + chars(e.Key) + sibsBytes(e.Sibs) }
func hintRow(h api.Hint) string {
	return "\x02" + num(uint64(h.For)) + chars(h.Entry.Key) + sibsBytes(h.Entry.Sibs)
}
func unhintRow(node int, key string) string { return "\x03" + num(uint64(node)) + chars(key) }
func reapRow(key string) string             { return "\x04" + chars(key) }

// framed is a record with its head, by the library's own sum.
func framed(r string) string {
	b := binary.BigEndian.AppendUint32(nil, uint32(len(r)))
	b = binary.BigEndian.AppendUint32(b, crc32.ChecksumIEEE([]byte(r)))
	return string(b) + r
}

// rows is records one behind the other, as they stand on a disk.
func rows(records ...string) string {
	var b strings.Builder
	for _, r := range records {
		b.WriteString(framed(r))
	}
	return b.String()
}

// short is the records that a log is made short to.
func short(s *Store) []string {
	var out []string
	for _, e := range s.All() {
		out = append(out, entryRow(e))
	}
	for _, h := range s.Hints() {
		out = append(out, hintRow(h))
	}
	return out
}

// file is a disk of these bytes, all of them sure.
func file(t *testing.T, most int, b string) *disk.Disk {
	t.Helper()
	d := disk.New(most)
	if err := d.Replace([]byte(b)); err != api.OK {
		t.Fatal("no file:", err)
	}
	return d
}

// twin is a disk of the same bytes, behind a crash.
func twin(t *testing.T, d *disk.Disk) *disk.Disk {
	t.Helper()
	return file(t, d.Most(), string(d.Bytes()[:d.Sure()]))
}

// opened is the store of a disk that may be opened.
func opened(t *testing.T, d *disk.Disk) *Store {
	t.Helper()
	s, err := Open(d)
	if s == nil || err != api.OK {
		t.Fatal("Open:", s != nil, err)
	}
	return s
}

// on is a store over a new disk with these records, and room for most bytes.
func on(t *testing.T, most int, records ...string) (*Store, *disk.Disk) {
	t.Helper()
	d := file(t, most, rows(records...))
	return opened(t, d), d
}

// someRows are records of keys and hints of all sorts.
func someRows() []string {
	return []string{
		entryRow(entry("k", api.Vector{1, 1}, val(0, 1, "x"), val(1, 1, "y"))),
		entryRow(entry("dead", api.Vector{2, 1}, gone(0, 2), gone(1, 1))),
		entryRow(entry("half", api.Vector{2, 1}, gone(0, 2), val(1, 1, "h"))),
		entryRow(entry("zero", api.Vector{})),
		hintRow(hint(5, "k", api.Vector{1}, val(0, 1, "x"))),
		hintRow(hint(2, "m", api.Vector{0, 3}, gone(1, 3))),
		hintRow(hint(2, "k", api.Vector{1, 1}, val(0, 1, "x"), val(1, 1, "y"))),
	}
}

// some is a store of these, with room for much more.
func some(t *testing.T) (*Store, *disk.Disk) {
	t.Helper()
	return on(t, 5000, someRows()...)
}

// holds says whether a store tells just this, its log has just these records, all of them sure, and Open of them tells the same.
func holds(t *testing.T, what string, s *Store, d *disk.Disk, want string, records ...string) {
	t.Helper()
	if got := all(s); got != want {
		t.Errorf("%s: it tells\n%swant\n%s", what, got, want)
	}
	if got := string(d.Bytes()); got != rows(records...) || d.Sure() != d.Size() {
		t.Errorf("%s: the disk has\n%q, %d of them sure; want\n%q", what, got, d.Sure(), rows(records...))
	}
	if s.Records() != len(records) {
		t.Errorf("%s: %d records; want %d", what, s.Records(), len(records))
	}
	again, err := Open(twin(t, d))
	if err != api.OK || all(again) != want || again.Records() != len(records) {
		t.Errorf("%s: opened again: %d\n%swant\n%s", what, err, all(again), want)
	}
}

// same says that neither a store nor its disk is other than it was when same was asked for.
func same(t *testing.T, s *Store, d *disk.Disk) func(what string) {
	t.Helper()
	state, b, sure, records := all(s), string(d.Bytes()), d.Sure(), s.Records()
	return func(what string) {
		t.Helper()
		if all(s) != state || string(d.Bytes()) != b || d.Sure() != sure || s.Records() != records {
			t.Errorf("%s: something changed: %d records, %d bytes, %d sure\n%s", what, s.Records(), d.Size(), d.Sure(), all(s))
		}
	}
}

// spoil writes over all that a caller may write over.
func spoil(s api.Sibs) {
	for i := range s.Values[:cap(s.Values)] {
		v := &s.Values[:cap(s.Values)][i]
		for j := range v.Data[:cap(v.Data)] {
			v.Data[:cap(v.Data)][j] = '?'
		}
		*v = gone(-1, -1)
	}
}

// wrong are entries that may not be, each by one fault.
func wrong() map[string]api.Entry {
	full := api.Vector{99}
	var row []api.Value
	for n := range int64(api.MaxValues + 1) {
		row = append(row, val(0, n+1, "x"))
	}
	return map[string]api.Entry{
		"no key":                    entry("", full),
		"a key too long":            entry(strings.Repeat("k", api.MaxKey+1), full),
		"a value too many":          entry("k", full, row...),
		"a count below 0":           entry("k", api.Vector{-1}),
		"a count above MaxCount":    entry("k", api.Vector{0, api.MaxCount + 1}),
		"a dot that is not covered": entry("k", api.Vector{1}, val(0, 2, "x")),
		"a node that is none":       entry("k", full, val(api.MaxNodes, 1, "x")),
		"an event 0":                entry("k", full, val(0, 0, "x")),
		"dots that fall":            entry("k", full, val(0, 2, "x"), val(0, 1, "x")),
		"a dot twice":               entry("k", full, val(0, 1, "x"), val(0, 1, "x")),
		"data too long":             entry("k", full, val(0, 1, strings.Repeat("d", api.MaxData+1))),
		"data of the dead":          entry("k", full, api.Value{Dot: api.Dot{N: 1}, Data: []byte("x"), Dead: true}),
	}
}

// greatest is an entry at the ends of what may be.
func greatest(key byte) api.Entry {
	e := entry(strings.Repeat(string(key), api.MaxKey), api.Vector{7: api.MaxCount})
	for i := range int64(api.MaxValues) {
		e.Sibs.Values = append(e.Sibs.Values, val(7, api.MaxCount-api.MaxValues+1+i, strings.Repeat("d", api.MaxData)))
	}
	return e
}

// The chapter's example.
func TestExample(t *testing.T) {
	d := disk.New(100)
	s := opened(t, d)
	if got, err := s.Put(0, "k", api.Vector{}, []byte("x"), false); err != api.OK || text(got) != `[1 0 0 0 0 0 0 0] (0 1) "x" false` {
		t.Error(text(got), err)
	}
	d.Crash(0)
	if got, ok := opened(t, d).Get("k"); !ok || text(got) != `[1 0 0 0 0 0 0 0] (0 1) "x" false` {
		t.Error(text(got), ok)
	}
}

// P12.1, P12.3: of an empty disk there is nothing, however much room it has.
func TestOpenEmpty(t *testing.T) {
	for _, most := range []int{0, 7, 1000, api.MaxFile} {
		d := disk.New(most)
		s := opened(t, d)
		holds(t, "empty", s, d, "")
		if got, ok := s.Get("k"); ok || text(got) != zero || got.Values != nil {
			t.Error(most, text(got), ok)
		}
		for b := -1; b <= api.Buckets; b++ {
			if len(s.Bucket(b)) != 0 {
				t.Error(most, b, s.Bucket(b))
			}
		}
	}
}

// P12.1: what comes of records of each of the four kinds, in order; those of kind 3 and 4 of what there is not do nothing.
func TestOpenKinds(t *testing.T) {
	x, y := entry("k", api.Vector{1}, val(0, 1, "x")), entry("k", api.Vector{0, 1}, val(1, 1, "y"))
	both := entry("k", api.Vector{1, 1}, val(0, 1, "x"), val(1, 1, "y"))
	dead := entry("k", api.Vector{2}, gone(0, 2))
	m := entry("m", api.Vector{}, []api.Value{}...)
	big := greatest('k')
	for _, c := range []struct {
		name    string
		records []string
		entries []api.Entry
		hints   []api.Hint
	}{
		{"an entry", []string{entryRow(x)}, []api.Entry{x}, nil},
		{"an entry of which nothing is known", []string{entryRow(m)}, []api.Entry{m}, nil},
		{"an entry at the ends", []string{entryRow(big)}, []api.Entry{big}, nil},
		{"two entries of a key", []string{entryRow(y), entryRow(x)}, []api.Entry{both}, nil},
		{"an entry twice", []string{entryRow(x), entryRow(x)}, []api.Entry{x}, nil},
		{"two keys", []string{entryRow(m), entryRow(x)}, []api.Entry{x, m}, nil},
		{"an old one behind a newer one", []string{entryRow(dead), entryRow(x)}, []api.Entry{dead}, nil},
		{"a hint", []string{hintRow(api.Hint{For: 0, Entry: x})}, nil, []api.Hint{{For: 0, Entry: x}}},
		{"a hint at the ends", []string{hintRow(api.Hint{For: 7, Entry: big})}, nil, []api.Hint{{For: 7, Entry: big}}},
		{"two hints of one", []string{hintRow(api.Hint{For: 3, Entry: y}), hintRow(api.Hint{For: 3, Entry: x})}, nil, []api.Hint{{For: 3, Entry: both}}},
		{"hints of one key for two", []string{hintRow(api.Hint{For: 4, Entry: y}), hintRow(api.Hint{For: 3, Entry: x})}, nil, []api.Hint{{For: 3, Entry: x}, {For: 4, Entry: y}}},
		{"an entry and a hint", []string{hintRow(api.Hint{For: 3, Entry: y}), entryRow(x)}, []api.Entry{x}, []api.Hint{{For: 3, Entry: y}}},
		{"a hint that is gone", []string{hintRow(api.Hint{For: 7, Entry: both}), unhintRow(7, "k")}, nil, nil},
		{"a hint that is gone, at the ends", []string{hintRow(api.Hint{For: 7, Entry: big}), unhintRow(7, big.Key)}, nil, nil},
		{"a hint that is gone twice", []string{hintRow(api.Hint{For: 0, Entry: x}), unhintRow(0, "k"), unhintRow(0, "k")}, nil, nil},
		{"a hint that comes again", []string{hintRow(api.Hint{For: 1, Entry: x}), unhintRow(1, "k"), hintRow(api.Hint{For: 1, Entry: y})}, nil, []api.Hint{{For: 1, Entry: y}}},
		{"no hint is gone", []string{unhintRow(0, "k"), unhintRow(7, strings.Repeat("k", api.MaxKey))}, nil, nil},
		{"a hint for another is gone", []string{hintRow(api.Hint{For: 1, Entry: x}), unhintRow(2, "k")}, nil, []api.Hint{{For: 1, Entry: x}}},
		{"a hint of another key is gone", []string{hintRow(api.Hint{For: 1, Entry: x}), unhintRow(1, "kk")}, nil, []api.Hint{{For: 1, Entry: x}}},
		{"a hint is gone, the entry is not", []string{entryRow(x), hintRow(api.Hint{For: 1, Entry: x}), unhintRow(1, "k")}, []api.Entry{x}, nil},
		{"reaped", []string{entryRow(dead), reapRow("k")}, []api.Entry{entry("k", api.Vector{2})}, nil},
		{"reaped twice", []string{entryRow(dead), reapRow("k"), reapRow("k")}, []api.Entry{entry("k", api.Vector{2})}, nil},
		{"reaped, and the old one again", []string{entryRow(dead), reapRow("k"), entryRow(dead), entryRow(x)}, []api.Entry{entry("k", api.Vector{2})}, nil},
		{"reaped, and a new one", []string{entryRow(dead), reapRow("k"), entryRow(y)}, []api.Entry{entry("k", api.Vector{2, 1}, val(1, 1, "y"))}, nil},
		{"reaped too early", []string{reapRow("k"), entryRow(dead)}, []api.Entry{dead}, nil},
		{"reaped what lives", []string{entryRow(x), reapRow("k")}, []api.Entry{x}, nil},
		{"reaped what lives in part", []string{entryRow(dead), entryRow(y), reapRow("k")}, []api.Entry{entry("k", api.Vector{2, 1}, gone(0, 2), val(1, 1, "y"))}, nil},
		{"reaped what has no values", []string{entryRow(m), reapRow("m")}, []api.Entry{m}, nil},
		{"reaped what is not there", []string{reapRow("k"), reapRow(strings.Repeat("k", api.MaxKey))}, nil, nil},
		{"reaped another key", []string{entryRow(dead), reapRow("kk")}, []api.Entry{dead}, nil},
		{"reaped, the hint is not", []string{hintRow(api.Hint{For: 1, Entry: dead}), reapRow("k")}, nil, []api.Hint{{For: 1, Entry: dead}}},
	} {
		s, d := on(t, 9000, c.records...)
		holds(t, c.name, s, d, texts(c.entries, c.hints), c.records...)
	}
}

// P12.1: of too many values the first by dots stand, record by record, as they came.
func TestOpenTooManyValues(t *testing.T) {
	var records []string
	want := entry("k", api.Vector{})
	for node := range 2 {
		e := entry("k", api.Vector{})
		e.Sibs.Seen[node], want.Sibs.Seen[node] = 10, 10
		for n := range int64(10) {
			e.Sibs.Values = append(e.Sibs.Values, val(node, n+1, "x"))
		}
		want.Sibs.Values = append(want.Sibs.Values, e.Sibs.Values...)
		records = append(records, entryRow(e))
	}
	want.Sibs.Values = want.Sibs.Values[:api.MaxValues]
	s, d := on(t, 999, records...)
	holds(t, "too many values", s, d, texts([]api.Entry{want}, nil), records...)
}

// P12.1: a torn end, of whatever length, is cut off.
func TestOpenTorn(t *testing.T) {
	kept := []string{entryRow(entry("k", api.Vector{1}, val(0, 1, "x"))), hintRow(hint(3, "m", api.Vector{1}))}
	next := framed(entryRow(entry("n", api.Vector{1}, val(0, 1, "torn"))))
	_, d := on(t, 900, kept...)
	want := all(opened(t, d))
	for n := range len(next) {
		for _, sure := range []bool{false, true} {
			_, d := on(t, 900, kept...)
			d.Append([]byte(next[:n]))
			if sure {
				d.Sync()
			}
			s := opened(t, d)
			holds(t, fmt.Sprint("torn at ", n), s, d, want, kept...)
			// What comes next stands right behind the records.
			if _, err := s.Join(entry("n", api.Vector{1}, val(0, 1, "torn"))); err != api.OK || string(d.Bytes()) != rows(kept...)+next {
				t.Error(n, err)
			}
		}
	}
	d.Append([]byte(next))
	if s := opened(t, d); s.Records() != 3 || d.Size() != len(rows(kept...)+next) {
		t.Error("a whole one is cut off")
	}
}

// wrongRows are records that are none, each by one fault.
func wrongRows() map[string]string {
	good := entry("k", api.Vector{1}, val(0, 1, "x"))
	long := strings.Repeat("k", api.MaxKey+1)
	sibs := sibsBytes(good.Sibs)
	out := map[string]string{
		"no byte":                          "",
		"kind 0":                           "\x00" + chars("k") + sibs,
		"kind 5":                           "\x05" + chars("k") + sibs,
		"a kind of two bytes":              num(128) + chars("k"),
		"kind 1 as two bytes":              "\x81\x00" + chars("k") + sibs,
		"kind 4 as two bytes":              "\x84\x00" + chars("k"),
		"a kind that goes on":              "\x81",
		"kind 2^64 + 4":                    "\x84\x80\x80\x80\x80\x80\x80\x80\x80\x02" + chars("k"),
		"kind 2^32 + 4":                    num(1<<32+4) + chars("k"),
		"kind 260":                         num(260) + chars("k"),
		"an entry, a byte behind it":       entryRow(good) + "\x00",
		"a hint, a byte behind it":         hintRow(api.Hint{Entry: good}) + "\x00",
		"no hint, a byte behind it":        unhintRow(1, "k") + "\x00",
		"reaped, a byte behind it":         reapRow("k") + "\x00",
		"reaped, itself behind it":         reapRow("k") + reapRow("k"),
		"a hint for 8":                     hintRow(api.Hint{For: 8, Entry: good}),
		"a hint for 256":                   hintRow(api.Hint{For: 256, Entry: good}),
		"a hint for 2^32":                  hintRow(api.Hint{For: 1 << 32, Entry: good}),
		"a hint for 2^64 - 1":              hintRow(api.Hint{For: -1, Entry: good}),
		"a hint for 2^63":                  hintRow(api.Hint{For: math.MinInt, Entry: good}),
		"a hint for 0 as two bytes":        "\x02\x80\x00" + chars("k") + sibs,
		"no hint for 8":                    unhintRow(8, "k"),
		"no hint for 256":                  unhintRow(256, "k"),
		"no hint for 2^64 - 1":             unhintRow(-1, "k"),
		"no hint for 2^63":                 unhintRow(math.MinInt, "k"),
		"no hint of no key":                unhintRow(1, ""),
		"no hint of a key too long":        unhintRow(1, long),
		"no hint of half a key":            "\x03\x01\x02k",
		"no hint of a key as two bytes":    "\x03\x01\x81\x00k",
		"reaped no key":                    reapRow(""),
		"reaped a key too long":            reapRow(long),
		"reaped half a key":                "\x04\x02k",
		"reaped without a key":             "\x04",
		"a value's flag that is none":      "\x01" + chars("k") + "\x02\x00\x00\x00\x00\x00\x00\x00" + "\x01" + "\x00\x02\x02\x00",
		"an entry in the form of a hint":   "\x01" + num(1) + chars("k") + sibs,
		"a hint in the form of an entry":   "\x02" + chars("k") + sibs,
		"no hint in the form of an entry":  "\x03" + chars("k") + sibs,
		"reaped in the form of an entry":   "\x04" + chars("k") + sibs,
		"no hint in the form of reaped":    "\x03" + chars("k"),
		"an entry in the form of reaped":   "\x01" + chars("k"),
		"17 values where there may be 16":  "\x01" + chars("k") + strings.Repeat("\x00", api.MaxNodes) + "\x11",
		"a kind alone: 1":                  "\x01",
		"a kind alone: 2":                  "\x02",
		"a kind alone: 3":                  "\x03",
		"a kind and a node alone: a hint":  "\x02\x01",
		"a kind and a node alone: no hint": "\x03\x01",
	}
	for name, e := range wrong() {
		out["an entry with "+name] = entryRow(e)
		out["a hint with "+name] = hintRow(api.Hint{For: 1, Entry: e})
	}
	for name, r := range map[string]string{"an entry": entryRow(good), "a hint": hintRow(api.Hint{For: 1, Entry: good}), "no hint": unhintRow(1, "kkk"), "reaped": reapRow("kkk")} {
		for n := range len(r) {
			out[fmt.Sprint(name, " cut at ", n)] = r[:n]
		}
	}
	return out
}

// P12.1, R4: a record that is none is ErrForm, wherever it stands, and the disk stays as it is, with a torn end too.
func TestOpenWrong(t *testing.T) {
	good := []string{entryRow(entry("k", api.Vector{1}, val(0, 1, "x"))), hintRow(hint(1, "k", api.Vector{1})), unhintRow(1, "k"), reapRow("k")}
	for name, r := range wrongRows() {
		for i, records := range [][]string{{r}, append(slices.Clone(good), r), append([]string{r}, good...)} {
			for _, torn := range []string{"", "\x00", framed("torn")[:11]} {
				for _, sure := range []bool{false, true} {
					d := disk.New(9000)
					d.Append([]byte(rows(records...)))
					d.Sync()
					d.Append([]byte(torn))
					if sure {
						d.Sync()
					}
					b, n := string(d.Bytes()), d.Sure()
					if s, err := Open(d); s != nil || err != api.ErrForm {
						t.Errorf("%s, %d, torn %q: %v, %d", name, i, torn, s != nil, err)
					}
					if string(d.Bytes()) != b || d.Sure() != n {
						t.Errorf("%s, %d, torn %q: the disk is changed: %d bytes, %d sure", name, i, torn, d.Size(), d.Sure())
					}
				}
			}
		}
	}
}

// P12.1: wal.Open's errors are handed on: no disk, a sum that is another one, a length that may not be; nothing is changed.
func TestOpenNoLog(t *testing.T) {
	if s, err := Open(nil); s != nil || err != api.ErrArg {
		t.Error(s != nil, err)
	}
	good := rows(entryRow(entry("k", api.Vector{1}, val(0, 1, "x"))))
	spoilt := []byte(good)
	spoilt[len(spoilt)-1]++
	for _, c := range []struct {
		b    string
		want api.Errno
	}{
		{good + string(spoilt), api.ErrForm},
		{string(spoilt) + good, api.ErrForm},
		{good + "\x00\x00\xea\x61\x00\x00\x00\x00", api.ErrLong},
		// A record that is none, ahead of it: the log's error is the first that the sentence lists.
		{rows("\x05") + "\x00\x00\xea\x61\x00\x00\x00\x00", api.ErrLong},
	} {
		d := disk.New(999)
		d.Append([]byte(c.b))
		if s, err := Open(d); s != nil || err != c.want || string(d.Bytes()) != c.b || d.Sure() != 0 {
			t.Errorf("%q: %v, %d, %q", c.b, s != nil, err, d.Bytes())
		}
	}
}

// manyKeys are records of n keys.
func manyKeys(n int) []string {
	var out []string
	for i := range n {
		out = append(out, entryRow(entry(fmt.Sprint("n", i), api.Vector{1}, val(0, 1, "x"))))
	}
	return out
}

// manyHints are records of n hints, for all nodes.
func manyHints(n int) []string {
	var out []string
	for i := range n {
		out = append(out, hintRow(hint(i%api.MaxNodes, fmt.Sprint("n", i), api.Vector{1}, val(0, 1, "x"))))
	}
	return out
}

// P12.1: as many keys and hints as may be are opened; one more is ErrForm.
func TestOpenLimits(t *testing.T) {
	full := append(manyKeys(api.MaxKeys), manyHints(api.MaxHints)...)
	s, d := on(t, api.MaxFile, full...)
	if len(s.All()) != api.MaxKeys || len(s.Hints()) != api.MaxHints {
		t.Error(len(s.All()), len(s.Hints()))
	}
	holds(t, "full", s, d, all(s), full...)
	for name, more := range map[string][]string{
		"a key":                         {entryRow(entry("more", api.Vector{}))},
		"a hint":                        {hintRow(hint(0, "more", api.Vector{}))},
		"the same key of another node":  {hintRow(hint(1, "n0", api.Vector{}))},
		"a key, though one was reaped":  {entryRow(entry("n3", api.Vector{2}, gone(0, 2))), reapRow("n3"), entryRow(entry("more", api.Vector{}))},
		"two hints where one was gone":  {unhintRow(3, "n3"), hintRow(hint(3, "n4", api.Vector{})), hintRow(hint(3, "n5", api.Vector{}))},
		"a hint ahead of one that goes": {hintRow(hint(0, "more", api.Vector{})), unhintRow(3, "n3")},
	} {
		b := rows(append(slices.Clone(full), more...)...)
		d := file(t, api.MaxFile, b)
		if s, err := Open(d); s != nil || err != api.ErrForm || string(d.Bytes()) != b {
			t.Error(name, s != nil, err)
		}
	}
	// Those that are there grow; what is gone makes room.
	more := append(slices.Clone(full), entryRow(entry("n9", api.Vector{2})), hintRow(hint(1, "n9", api.Vector{2})), unhintRow(3, "n3"), hintRow(hint(3, "n4", api.Vector{})))
	if s, _ := on(t, api.MaxFile, more...); len(s.All()) != api.MaxKeys || len(s.Hints()) != api.MaxHints || s.Records() != len(more) {
		t.Error(len(s.All()), len(s.Hints()), s.Records())
	}
}

// P12.2: Put of a key that is not there and of one that is, with what was seen and without, of data and of a dead one; each is one record.
func TestPut(t *testing.T) {
	s, d := on(t, 9000)
	var records []string
	last := map[string]api.Sibs{}
	for i, c := range []struct {
		node int
		key  string
		seen api.Vector
		data string
		dead bool
		want string
	}{
		{0, "k", api.Vector{}, "x", false, `[1 0 0 0 0 0 0 0] (0 1) "x" false`},
		// Nothing seen: both stand.
		{1, "k", api.Vector{}, "y", false, `[1 1 0 0 0 0 0 0] (0 1) "x" false (1 1) "y" false`},
		{0, "k", api.Vector{}, "x", false, `[2 1 0 0 0 0 0 0] (0 1) "x" false (0 2) "x" false (1 1) "y" false`},
		// Some seen: these are replaced.
		{2, "k", api.Vector{1, 1}, "z", false, `[2 1 1 0 0 0 0 0] (0 2) "x" false (2 1) "z" false`},
		// All seen, and dead.
		{0, "k", api.Vector{2, 1, 1}, "", true, `[3 1 1 0 0 0 0 0] (0 3) "" true`},
		// Not seen: the dead one stands beside it.
		{0, "k", api.Vector{2, 1, 1}, "", false, `[4 1 1 0 0 0 0 0] (0 3) "" true (0 4) "" false`},
		{3, "k", api.Vector{}, "", true, `[4 1 1 1 0 0 0 0] (0 3) "" true (0 4) "" false (3 1) "" true`},
		// More was seen than is known: it counts as seen, and the event comes behind it.
		{0, "k", api.Vector{9, 5, 1, 1}, "w", false, `[10 5 1 1 0 0 0 0] (0 10) "w" false`},
		{7, "new", api.Vector{0, 0, 0, 0, 0, 0, 0, 6}, "n", false, `[0 0 0 0 0 0 0 7] (7 7) "n" false`},
		{7, "gone", api.Vector{}, "", true, `[0 0 0 0 0 0 0 1] (7 1) "" true`},
		{7, "last", api.Vector{7: api.MaxCount - 1}, "", false, fmt.Sprint(api.Vector{7: api.MaxCount}, ` (7 1099511627776) "" false`)},
		{0, strings.Repeat("\xff", api.MaxKey), api.Vector{}, strings.Repeat("d", api.MaxData), false, `[1 0 0 0 0 0 0 0] (0 1) "` + strings.Repeat("d", api.MaxData) + `" false`},
	} {
		got, err := s.Put(c.node, c.key, c.seen, []byte(c.data), c.dead)
		if err != api.OK || text(got) != c.want {
			t.Errorf("%d: %s, %d; want %s", i, text(got), err, c.want)
		}
		if got, ok := s.Get(c.key); !ok || text(got) != c.want {
			t.Errorf("%d: Get: %s, %v; want %s", i, text(got), ok, c.want)
		}
		last[c.key] = got
		records = append(records, entryRow(api.Entry{Key: c.key, Sibs: got}))
		var row []api.Entry
		for _, key := range slices.Sorted(maps.Keys(last)) {
			row = append(row, api.Entry{Key: key, Sibs: last[key]})
		}
		holds(t, fmt.Sprint(i), s, d, texts(row, nil), records...)
	}
}

// P12.2, R4: what Put refuses: the first error that its sentence lists, ahead of any of the disk; nothing is changed.
func TestPutWrong(t *testing.T) {
	long := strings.Repeat("d", api.MaxData+1)
	wide := entry("wide", api.Vector{api.MaxValues})
	for n := range int64(api.MaxValues) {
		wide.Sibs.Values = append(wide.Sibs.Values, val(0, n+1, "x"))
	}
	full := append(manyKeys(api.MaxKeys-2), entryRow(entry("end", api.Vector{api.MaxCount})), entryRow(wide))
	for _, c := range []struct {
		name string
		node int
		key  string
		seen api.Vector
		data string
		dead bool
		want api.Errno
	}{
		{"no key", 0, "", api.Vector{}, "x", false, api.ErrArg},
		{"a key too long", 0, strings.Repeat("k", api.MaxKey+1), api.Vector{}, "x", false, api.ErrArg},
		{"a node below 0", -1, "n0", api.Vector{}, "x", false, api.ErrArg},
		{"MaxNodes", api.MaxNodes, "n0", api.Vector{}, "x", false, api.ErrArg},
		{"the least node", math.MinInt, "n0", api.Vector{}, "x", false, api.ErrArg},
		{"the greatest node", math.MaxInt, "n0", api.Vector{}, "x", false, api.ErrArg},
		{"seen below 0", 0, "n0", api.Vector{0, -1}, "x", false, api.ErrArg},
		{"seen above MaxCount", 0, "n0", api.Vector{0, api.MaxCount + 1}, "x", false, api.ErrArg},
		{"data too long", 0, "n0", api.Vector{}, long, false, api.ErrArg},
		{"dead with data", 0, "n0", api.Vector{}, "x", true, api.ErrArg},
		{"a value too many", 0, "wide", api.Vector{}, "x", false, api.ErrLimit},
		{"a dead value too many", 7, "wide", api.Vector{}, "", true, api.ErrLimit},
		{"a count seen at its end", 1, "n0", api.Vector{0, api.MaxCount}, "x", false, api.ErrLimit},
		{"a count of what is known at its end", 0, "end", api.Vector{}, "x", false, api.ErrLimit},
		{"a key too many", 0, "more", api.Vector{}, "x", false, api.ErrLimit},
		{"a dead key too many", 0, "more", api.Vector{1}, "", true, api.ErrLimit},
		{"a key too many, of a node that is none", 8, "more", api.Vector{}, "x", false, api.ErrArg},
		{"a key too many, with data too long", 0, "more", api.Vector{}, long, false, api.ErrArg},
		{"a key too many, seen that may not be", 0, "more", api.Vector{-1}, "x", false, api.ErrArg},
		{"a key too many, and too long", 0, strings.Repeat("k", api.MaxKey+1), api.Vector{}, "x", false, api.ErrArg},
	} {
		for _, room := range []int{999, 0} {
			s, d := on(t, len(rows(full...))+room, full...)
			check := same(t, s, d)
			got, err := s.Put(c.node, c.key, c.seen, []byte(c.data), c.dead)
			if err != c.want || text(got) != zero || got.Values != nil {
				t.Errorf("%s: %s, %d; want %d", c.name, text(got), err, c.want)
			}
			check(c.name)
		}
	}
	// The keys that are there still grow.
	s, _ := on(t, api.MaxFile, full...)
	if got, err := s.Put(1, "n0", api.Vector{}, []byte("y"), false); err != api.OK || len(got.Values) != 2 {
		t.Error(text(got), err)
	}
	if got, err := s.Put(0, "wide", api.Vector{1}, []byte("y"), false); err != api.OK || len(got.Values) != api.MaxValues {
		t.Error(text(got), err)
	}
	if got, err := s.Put(1, "end", api.Vector{}, []byte("y"), false); err != api.OK || len(got.Values) != 1 {
		t.Error(text(got), err)
	}
}

// P12.2: keys may be put up to MaxKeys, by Put and Join together.
func TestMaxKeys(t *testing.T) {
	s, d := on(t, api.MaxFile)
	for i := range api.MaxKeys {
		key := fmt.Sprint("n", i)
		if i%2 == 0 {
			if _, err := s.Put(0, key, api.Vector{}, nil, true); err != api.OK {
				t.Fatal(i, err)
			}
		} else if changed, err := s.Join(entry(key, api.Vector{})); !changed || err != api.OK {
			t.Fatal(i, changed, err)
		}
	}
	// What is reaped is there still.
	if did, err := s.Reap("n0"); !did || err != api.OK {
		t.Error(did, err)
	}
	check := same(t, s, d)
	if _, err := s.Put(0, "more", api.Vector{}, nil, false); err != api.ErrLimit {
		t.Error(err)
	}
	if changed, err := s.Join(entry("more", api.Vector{})); changed || err != api.ErrLimit {
		t.Error(changed, err)
	}
	check("a key too many")
	// Hints have a limit of their own.
	if err := s.Hint(hint(0, "more", api.Vector{})); err != api.OK {
		t.Error(err)
	}
}

// P12.2: Join of a key that is not there with nothing known, of the Same again, and of more; the record is what was joined.
func TestJoin(t *testing.T) {
	s, d := on(t, 9000)
	var records []string
	for i, c := range []struct {
		e       api.Entry
		changed bool
		want    string
	}{
		{entry("k", api.Vector{}), true, zero},
		{entry("k", api.Vector{}), false, zero},
		{entry("k", api.Vector{1}, val(0, 1, "x")), true, `[1 0 0 0 0 0 0 0] (0 1) "x" false`},
		{entry("k", api.Vector{1}, val(0, 1, "x")), false, `[1 0 0 0 0 0 0 0] (0 1) "x" false`},
		{entry("k", api.Vector{}), false, `[1 0 0 0 0 0 0 0] (0 1) "x" false`},
		{entry("k", api.Vector{0, 1}, val(1, 1, "y")), true, `[1 1 0 0 0 0 0 0] (0 1) "x" false (1 1) "y" false`},
		{entry("k", api.Vector{1}, val(0, 1, "x")), false, `[1 1 0 0 0 0 0 0] (0 1) "x" false (1 1) "y" false`},
		// Nothing but that one was replaced.
		{entry("k", api.Vector{1}), true, `[1 1 0 0 0 0 0 0] (1 1) "y" false`},
		{entry("k", api.Vector{1}, val(0, 1, "x")), false, `[1 1 0 0 0 0 0 0] (1 1) "y" false`},
		// Nothing but an event more.
		{entry("k", api.Vector{1, 0, 4}), true, `[1 1 4 0 0 0 0 0] (1 1) "y" false`},
		{entry("k", api.Vector{1, 2, 4}, gone(1, 2)), true, `[1 2 4 0 0 0 0 0] (1 2) "" true`},
		// The same dot with other values.
		{entry("k", api.Vector{1, 2, 4}, val(1, 2, "b")), true, `[1 2 4 0 0 0 0 0] (1 2) "b" false`},
		{entry("k", api.Vector{1, 2, 4}, val(1, 2, "c")), false, `[1 2 4 0 0 0 0 0] (1 2) "b" false`},
		{entry("k", api.Vector{1, 2, 4}, val(1, 2, "a")), true, `[1 2 4 0 0 0 0 0] (1 2) "a" false`},
		{entry("k", api.Vector{1, 2, 4}, gone(1, 2)), false, `[1 2 4 0 0 0 0 0] (1 2) "a" false`},
		{greatest('g'), true, text(greatest('g').Sibs)},
		{greatest('g'), false, text(greatest('g').Sibs)},
		{entry("\x00", api.Vector{1}, gone(0, 1)), true, `[1 0 0 0 0 0 0 0] (0 1) "" true`},
	} {
		check := same(t, s, d)
		changed, err := s.Join(c.e)
		if changed != c.changed || err != api.OK {
			t.Errorf("%d: %v, %d", i, changed, err)
		}
		if got, ok := s.Get(c.e.Key); !ok || text(got) != c.want {
			t.Errorf("%d: %s, %v; want %s", i, text(got), ok, c.want)
		}
		if !c.changed {
			check(fmt.Sprint(i))
			continue
		}
		records = append(records, entryRow(c.e))
		holds(t, fmt.Sprint(i), s, d, all(s), records...)
	}
}

// P12.2, R4: Join and Hint of what may not be are ErrArg, of one too many ErrLimit, ahead of any error of the disk; nothing is changed.
func TestJoinHintWrong(t *testing.T) {
	full := append(manyKeys(api.MaxKeys), manyHints(api.MaxHints)...)
	for _, records := range [][]string{nil, {entryRow(entry("k", api.Vector{1})), hintRow(hint(1, "k", api.Vector{1}))}, full} {
		for _, room := range []int{9999, 0} {
			s, d := on(t, len(rows(records...))+room, records...)
			check := same(t, s, d)
			for name, e := range wrong() {
				if changed, err := s.Join(e); changed || err != api.ErrArg {
					t.Error(name, changed, err)
				}
				if err := s.Hint(api.Hint{For: 1, Entry: e}); err != api.ErrArg {
					t.Error(name, err)
				}
			}
			for _, node := range []int{-1, api.MaxNodes, 256, math.MinInt, math.MaxInt} {
				if err := s.Hint(hint(node, "k", api.Vector{1})); err != api.ErrArg {
					t.Error(node, err)
				}
			}
			check("wrong")
		}
	}
	for _, room := range []int{9999, 0} {
		s, d := on(t, len(rows(full...))+room, full...)
		check := same(t, s, d)
		for _, e := range []api.Entry{entry("more", api.Vector{}), greatest('g')} {
			if changed, err := s.Join(e); changed || err != api.ErrLimit {
				t.Error(changed, err)
			}
		}
		// Of a key that is there for another node, too.
		for _, h := range []api.Hint{hint(0, "more", api.Vector{}), hint(7, "more", api.Vector{1}), hint(1, "n0", api.Vector{})} {
			if err := s.Hint(h); err != api.ErrLimit {
				t.Error(h.For, h.Entry.Key, err)
			}
		}
		// What is there already and adds nothing is no error.
		if changed, err := s.Join(entry("n7", api.Vector{})); changed || err != api.OK {
			t.Error(changed, err)
		}
		if err := s.Hint(hint(7, "n7", api.Vector{})); err != api.OK {
			t.Error(err)
		}
		check("full")
	}
	// What is there grows still, and what is gone makes room.
	s, _ := on(t, api.MaxFile, full...)
	if changed, err := s.Join(entry("n7", api.Vector{2})); !changed || err != api.OK {
		t.Error(changed, err)
	}
	if err := s.Hint(hint(7, "n7", api.Vector{2})); err != api.OK {
		t.Error(err)
	}
	if did, err := s.Unhint(7, "n7", known(api.Vector{2})); !did || err != api.OK {
		t.Error(did, err)
	}
	if first, second := s.Hint(hint(0, "more", api.Vector{})), s.Hint(hint(7, "n7", api.Vector{2})); first != api.OK || second != api.ErrLimit {
		t.Error(first, second)
	}
}

// P12.2: Hint that changes something is a record of what was handed in; one that changes nothing is none.
func TestHint(t *testing.T) {
	s, d := on(t, 9000)
	var records []string
	for i, c := range []struct {
		h       api.Hint
		changed bool
		want    string
	}{
		{hint(1, "k", api.Vector{}), true, zero},
		{hint(1, "k", api.Vector{}), false, zero},
		{hint(1, "k", api.Vector{1}, val(0, 1, "x")), true, `[1 0 0 0 0 0 0 0] (0 1) "x" false`},
		{hint(1, "k", api.Vector{1}, val(0, 1, "x")), false, `[1 0 0 0 0 0 0 0] (0 1) "x" false`},
		{hint(1, "k", api.Vector{0, 1}, val(1, 1, "y")), true, `[1 1 0 0 0 0 0 0] (0 1) "x" false (1 1) "y" false`},
		{hint(1, "k", api.Vector{1}, val(0, 1, "x")), false, `[1 1 0 0 0 0 0 0] (0 1) "x" false (1 1) "y" false`},
		{hint(1, "k", api.Vector{2}), true, `[2 1 0 0 0 0 0 0] (1 1) "y" false`},
		{hint(1, "k", api.Vector{0, 1}, val(1, 1, "a")), true, `[2 1 0 0 0 0 0 0] (1 1) "a" false`},
		{hint(1, "k", api.Vector{0, 1}, gone(1, 1)), false, `[2 1 0 0 0 0 0 0] (1 1) "a" false`},
		// The same key for others.
		{hint(0, "k", api.Vector{}), true, zero},
		{hint(7, "k", api.Vector{0, 1}, gone(1, 1)), true, `[0 1 0 0 0 0 0 0] (1 1) "" true`},
		{api.Hint{For: 7, Entry: greatest('g')}, true, text(greatest('g').Sibs)},
		{api.Hint{For: 7, Entry: greatest('g')}, false, text(greatest('g').Sibs)},
	} {
		check := same(t, s, d)
		if err := s.Hint(c.h); err != api.OK {
			t.Errorf("%d: %d", i, err)
		}
		at := slices.IndexFunc(s.Hints(), func(h api.Hint) bool { return h.For == c.h.For && h.Entry.Key == c.h.Entry.Key })
		if at < 0 || text(s.Hints()[at].Entry.Sibs) != c.want {
			t.Errorf("%d: %d, want %s:\n%s", i, at, c.want, all(s))
		}
		if !c.changed {
			check(fmt.Sprint(i))
			continue
		}
		records = append(records, hintRow(c.h))
		holds(t, fmt.Sprint(i), s, d, all(s), records...)
	}
	// They are kept for others: nothing of it is known here.
	if len(s.All()) != 0 {
		t.Error(s.All())
	}
}

// P12.2: Unhint lets go a hint that is known to the one who says so, as one record of its node and key, and no other.
func TestUnhint(t *testing.T) {
	s, d := some(t)
	records := someRows()
	for i, c := range []struct {
		node int
		key  string
		seen api.Sibs
		did  bool
	}{
		// Not all of it is known.
		{2, "k", api.Sibs{}, false},
		{2, "k", known(api.Vector{1}, val(0, 1, "x")), false},
		{2, "k", known(api.Vector{0, 9}), false},
		// There is none: for another node, of another key, of no key, of no node.
		{3, "k", known(api.Vector{9, 9}), false},
		{5, "m", known(api.Vector{9, 9}), false},
		{2, "", known(api.Vector{9, 9}), false},
		{2, strings.Repeat("k", api.MaxKey+1), known(api.Vector{9, 9}), false},
		{-1, "k", known(api.Vector{9, 9}), false},
		{api.MaxNodes, "k", known(api.Vector{9, 9}), false},
		{math.MinInt, "k", known(api.Vector{9, 9}), false},
		{math.MaxInt, "k", known(api.Vector{9, 9}), false},
		// What may not be knows nothing.
		{2, "k", known(api.Vector{-1, 9}), false},
		{2, "k", known(api.Vector{9, api.MaxCount + 1}), false},
		{2, "k", known(api.Vector{1, 1}, val(1, 1, "y"), val(0, 1, "x")), false},
		// Just the same, once; the other node's stays.
		{2, "k", known(api.Vector{1, 1}, val(0, 1, "x"), val(1, 1, "y")), true},
		{2, "k", known(api.Vector{1, 1}, val(0, 1, "x"), val(1, 1, "y")), false},
		// What has replaced it.
		{5, "k", known(api.Vector{2, 1}, val(0, 2, "z"), val(1, 1, "y")), true},
		{2, "m", known(api.Vector{0, 2}), false},
		{2, "m", known(api.Vector{0, 3}), true},
		{2, "m", known(api.Vector{0, 3}), false},
	} {
		check := same(t, s, d)
		left := len(s.Hints())
		if did, err := s.Unhint(c.node, c.key, c.seen); did != c.did || err != api.OK {
			t.Errorf("%d: %v, %d", i, did, err)
		}
		if !c.did {
			check(fmt.Sprint(i))
			continue
		}
		records = append(records, unhintRow(c.node, c.key))
		holds(t, fmt.Sprint(i), s, d, all(s), records...)
		gone := func(h api.Hint) bool { return h.For == c.node && h.Entry.Key == c.key }
		if len(s.Hints()) != left-1 || slices.ContainsFunc(s.Hints(), gone) || len(s.All()) != 4 {
			t.Errorf("%d:\n%s", i, all(s))
		}
	}
	if len(s.Hints()) != 0 {
		t.Error(all(s))
	}
}

// P12.2: Reap of a key with dead values alone is one record; of one with others, with none, or that is not there it is nothing.
func TestReap(t *testing.T) {
	s, d := some(t)
	for _, key := range []string{"k", "half", "zero", "none", "m", "", strings.Repeat("k", api.MaxKey+1)} {
		check := same(t, s, d)
		if did, err := s.Reap(key); did || err != api.OK {
			t.Errorf("%q: %v, %d", key, did, err)
		}
		check(key)
	}
	before := string(d.Bytes())
	if did, err := s.Reap("dead"); !did || err != api.OK {
		t.Error(did, err)
	}
	if got, ok := s.Get("dead"); !ok || text(got) != `[2 1 0 0 0 0 0 0]` {
		t.Error(text(got), ok)
	}
	if string(d.Bytes()) != before+rows(reapRow("dead")) || s.Records() != 8 || all(opened(t, twin(t, d))) != all(s) {
		t.Errorf("%q", d.Bytes())
	}
	check := same(t, s, d)
	if did, err := s.Reap("dead"); did || err != api.OK {
		t.Error(did, err)
	}
	// What was reaped does not come back.
	if changed, err := s.Join(entry("dead", api.Vector{2, 1}, gone(0, 2), gone(1, 1))); changed || err != api.OK {
		t.Error(changed, err)
	}
	if changed, err := s.Join(entry("dead", api.Vector{1}, val(0, 1, "old"))); changed || err != api.OK {
		t.Error(changed, err)
	}
	check("reaped")
	// Not for another event either: the next one comes behind it.
	if got, err := s.Put(0, "dead", api.Vector{}, nil, true); err != api.OK || text(got) != `[3 1 0 0 0 0 0 0] (0 3) "" true` {
		t.Error(text(got), err)
	}
}

// P12.3: Get, All, Bucket and Hints tell what there is, in order.
func TestTold(t *testing.T) {
	s, _ := some(t)
	for key, want := range map[string]string{
		"k":    `[1 1 0 0 0 0 0 0] (0 1) "x" false (1 1) "y" false`,
		"dead": `[2 1 0 0 0 0 0 0] (0 2) "" true (1 1) "" true`,
		"half": `[2 1 0 0 0 0 0 0] (0 2) "" true (1 1) "h" false`,
		"zero": zero,
	} {
		if got, ok := s.Get(key); !ok || text(got) != want {
			t.Errorf("%q: %s, %v", key, text(got), ok)
		}
	}
	for _, key := range []string{"", "m", "kk", "K", strings.Repeat("k", api.MaxKey+1)} {
		if got, ok := s.Get(key); ok || text(got) != zero || got.Values != nil {
			t.Errorf("%q: %s, %v", key, text(got), ok)
		}
	}
	want := `"dead": [2 1 0 0 0 0 0 0] (0 2) "" true (1 1) "" true
"half": [2 1 0 0 0 0 0 0] (0 2) "" true (1 1) "h" false
"k": [1 1 0 0 0 0 0 0] (0 1) "x" false (1 1) "y" false
"zero": [0 0 0 0 0 0 0 0]
for 2 "k": [1 1 0 0 0 0 0 0] (0 1) "x" false (1 1) "y" false
for 2 "m": [0 3 0 0 0 0 0 0] (1 3) "" true
for 5 "k": [1 0 0 0 0 0 0 0] (0 1) "x" false
`
	if got := all(s); got != want || s.Records() != 7 {
		t.Error(got, s.Records())
	}
	// The sums of dead, half, k and zero are 398, 411, 107 and 448.
	for b, want := range map[int][]string{0: {"zero"}, 1: nil, 2: {"dead"}, 3: {"half", "k"}, -1: nil, 4: nil, 398: nil, math.MinInt: nil, math.MaxInt: nil} {
		var got []string
		for _, e := range s.Bucket(b) {
			got = append(got, e.Key)
			if known, _ := s.Get(e.Key); text(known) != text(e.Sibs) {
				t.Errorf("%d: %q: %s", b, e.Key, text(e.Sibs))
			}
		}
		if !slices.Equal(got, want) {
			t.Errorf("%d: %q", b, got)
		}
	}
}

// call is one of the calls that change something, on a store of some's records.
type call struct {
	name   string
	record string
	do     func(s *Store) (told bool, err api.Errno)
}

// calls are one of each kind; told is whether more than zero values was told.
func calls() []call {
	e := entry("new", api.Vector{0, 1}, val(1, 1, "n"))
	return []call{
		{"Put", entryRow(entry("k", api.Vector{2, 1}, val(0, 2, "put"), val(1, 1, "y"))), func(s *Store) (bool, api.Errno) {
			got, err := s.Put(0, "k", api.Vector{1}, []byte("put"), false)
			return text(got) != zero || got.Values != nil, err
		}},
		{"Put of a new key", entryRow(entry("p", api.Vector{1}, gone(0, 1))), func(s *Store) (bool, api.Errno) {
			got, err := s.Put(0, "p", api.Vector{}, nil, true)
			return text(got) != zero || got.Values != nil, err
		}},
		{"Join", entryRow(e), func(s *Store) (bool, api.Errno) { return s.Join(e) }},
		{"Hint", hintRow(api.Hint{For: 4, Entry: e}), func(s *Store) (bool, api.Errno) {
			err := s.Hint(api.Hint{For: 4, Entry: e})
			return err == api.OK, err
		}},
		{"Unhint", unhintRow(2, "k"), func(s *Store) (bool, api.Errno) { return s.Unhint(2, "k", known(api.Vector{9, 9})) }},
		{"Reap", reapRow("dead"), func(s *Store) (bool, api.Errno) { return s.Reap("dead") }},
	}
}

// P12.2: a call's record is appended where there is room for just it; where a byte lacks the log is made short first, the entries by key, then the hints by node and key, and the record stands behind.
func TestShorten(t *testing.T) {
	// Records that come to nothing, ahead and behind: few, so that there is just room behind them, and more.
	few := append(someRows(), reapRow("none"))
	many := slices.Concat([]string{reapRow("none")}, someRows(), []string{unhintRow(2, "none"), entryRow(entry("zero", api.Vector{})), reapRow("k")})
	least := []string{
		entryRow(entry("dead", api.Vector{2, 1}, gone(0, 2), gone(1, 1))),
		entryRow(entry("half", api.Vector{2, 1}, gone(0, 2), val(1, 1, "h"))),
		entryRow(entry("k", api.Vector{1, 1}, val(0, 1, "x"), val(1, 1, "y"))),
		entryRow(entry("zero", api.Vector{})),
		hintRow(hint(2, "k", api.Vector{1, 1}, val(0, 1, "x"), val(1, 1, "y"))),
		hintRow(hint(2, "m", api.Vector{0, 3}, gone(1, 3))),
		hintRow(hint(5, "k", api.Vector{1}, val(0, 1, "x"))),
	}
	for _, c := range calls() {
		free, _ := some(t)
		if told, err := c.do(free); !told || err != api.OK {
			t.Fatal(c.name, told, err)
		}
		want := all(free)
		for _, long := range [][]string{few, many} {
			most := min(len(framed(c.record)), len(rows(long...))-len(rows(least...)))
			for lack := range most + 1 {
				s, d := on(t, len(rows(long...))+len(framed(c.record))-lack, long...)
				if told, err := c.do(s); !told || err != api.OK {
					t.Error(c.name, lack, told, err)
				}
				records := slices.Clone(long)
				if lack > 0 {
					records = slices.Clone(least)
				}
				holds(t, fmt.Sprint(c.name, " ", lack), s, d, want, append(records, c.record)...)
			}
		}
	}
}

// P12.2: where a log that was made short has no room either, the call tells ErrRoom, and only Records may have changed.
func TestNoRoom(t *testing.T) {
	long := slices.Concat(someRows(), []string{reapRow("none"), unhintRow(0, "none")})
	free, _ := some(t)
	want, least := all(free), short(free)
	for _, c := range calls() {
		for _, records := range [][]string{long, least} {
			for lack := 1; lack <= len(framed(c.record)); lack++ {
				most := len(rows(least...)) + len(framed(c.record)) - lack
				if most < len(rows(records...)) {
					continue
				}
				s, d := on(t, most, records...)
				for range 2 {
					if told, err := c.do(s); told || err != api.ErrRoom {
						t.Error(c.name, lack, told, err)
					}
					holds(t, fmt.Sprint(c.name, " ", lack), s, d, want, least...)
				}
			}
		}
		// A disk that is full to the last byte, of a log that is as short as it can be, but not in order.
		s, d := on(t, len(rows(someRows()...)), someRows()...)
		if told, err := c.do(s); told || err != api.ErrRoom {
			t.Error(c.name, told, err)
		}
		holds(t, c.name, s, d, want, least...)
	}
	// On a disk without any room nothing comes about.
	s, d := on(t, 0)
	if got, err := s.Put(0, "k", api.Vector{}, nil, false); err != api.ErrRoom || text(got) != zero {
		t.Error(text(got), err)
	}
	if changed, err := s.Join(entry("k", api.Vector{})); changed || err != api.ErrRoom {
		t.Error(changed, err)
	}
	if err := s.Hint(hint(0, "k", api.Vector{})); err != api.ErrRoom {
		t.Error(err)
	}
	holds(t, "no room", s, d, "")
}

// P12.2: what was refused for want of room is done once there is room, with the event that it would have had.
func TestRoomAgain(t *testing.T) {
	kept := hint(3, "kept", api.Vector{1}, val(0, 1, strings.Repeat("d", 50)))
	most := len(rows(hintRow(kept), unhintRow(3, "kept")))
	s, d := on(t, most, hintRow(kept))
	for range 3 {
		if got, err := s.Put(0, "k", api.Vector{}, []byte("x"), false); err != api.ErrRoom || text(got) != zero {
			t.Error(text(got), err)
		}
	}
	if did, err := s.Unhint(3, "kept", kept.Entry.Sibs); !did || err != api.OK {
		t.Error(did, err)
	}
	holds(t, "let go", s, d, "", hintRow(kept), unhintRow(3, "kept"))
	x := entry("k", api.Vector{1}, val(0, 1, "x"))
	if got, err := s.Put(0, "k", api.Vector{}, []byte("x"), false); err != api.OK || text(got) != text(x.Sibs) {
		t.Error(text(got), err)
	}
	holds(t, "put", s, d, texts([]api.Entry{x}, nil), entryRow(x))
}

// R3, R4: where somebody else empties the disk meanwhile, so that more is known than it has room for, a call tells ErrRoom and changes nothing.
func TestDiskOfOthers(t *testing.T) {
	x, y, z := entry("x", api.Vector{1}, val(0, 1, "x")), entry("y", api.Vector{1}, val(0, 1, "y")), entry("z", api.Vector{1}, val(0, 1, "z"))
	s, d := on(t, len(rows(entryRow(x))), entryRow(x))
	d.Cut(0)
	if changed, err := s.Join(y); !changed || err != api.OK {
		t.Error(changed, err)
	}
	check := same(t, s, d)
	if changed, err := s.Join(z); changed || err != api.ErrRoom {
		t.Error(changed, err)
	}
	check("more than there is room for")
}

// P12.2: a change that is none asks for no room: it appends nothing, and the log is not made short.
func TestNothingToChange(t *testing.T) {
	records := append(someRows(), reapRow("none"), entryRow(entry("k", api.Vector{1})))
	for _, room := range []int{0, 5, 999} {
		s, d := on(t, len(rows(records...))+room, records...)
		check := same(t, s, d)
		for _, e := range s.All() {
			for _, e := range []api.Entry{e, entry(e.Key, api.Vector{})} {
				if changed, err := s.Join(e); changed || err != api.OK {
					t.Error(e.Key, changed, err)
				}
			}
		}
		for _, key := range []string{"k", "half", "zero", "none"} {
			if did, err := s.Reap(key); did || err != api.OK {
				t.Error(key, did, err)
			}
		}
		for _, h := range s.Hints() {
			if err := s.Hint(h); err != api.OK {
				t.Error(h.Entry.Key, err)
			}
			if did, err := s.Unhint(h.For, h.Entry.Key, api.Sibs{}); did || err != api.OK {
				t.Error(h.Entry.Key, did, err)
			}
		}
		check(fmt.Sprint(room))
	}
}

// wide is an entry whose lists have more behind their length.
func wide(key string) api.Entry {
	row := make([]api.Value, 2, 4)
	row[0] = api.Value{Dot: api.Dot{Node: 0, N: 1}, Data: []byte("xbehind")[:1]}
	row[1] = val(1, 1, "y")
	row[:3][2] = val(2, 1, "behind")
	return api.Entry{Key: key, Sibs: api.Sibs{Seen: api.Vector{1, 1}, Values: row}}
}

// R2: what was handed in is neither changed nor kept.
func TestMemoryHandedIn(t *testing.T) {
	s, d := some(t)
	whole := func(what string, e api.Entry) {
		t.Helper()
		if text(e.Sibs) != `[1 1 0 0 0 0 0 0] (0 1) "x" false (1 1) "y" false` || string(e.Sibs.Values[0].Data[:7]) != "xbehind" || string(e.Sibs.Values[:3][2].Data) != "behind" {
			t.Error(what, "changed what was handed in:", text(e.Sibs))
		}
		check := same(t, s, d)
		spoil(e.Sibs)
		check(what)
	}
	for range 2 {
		e := wide("w")
		s.Join(e)
		whole("Join", e)
		e = wide("w")
		s.Hint(api.Hint{For: 6, Entry: e})
		whole("Hint", e)
	}
	e := wide("w")
	if did, err := s.Unhint(6, "w", e.Sibs); !did || err != api.OK {
		t.Error(did, err)
	}
	whole("Unhint", e)
	data := []byte("putbehind")
	if _, err := s.Put(3, "p", api.Vector{}, data[:3], false); err != api.OK || string(data) != "putbehind" {
		t.Errorf("%d, %q", err, data)
	}
	check := same(t, s, d)
	copy(data, "?????????")
	check("Put")
	if got, _ := s.Get("p"); text(got) != `[0 0 0 1 0 0 0 0] (3 1) "put" false` {
		t.Error(text(got))
	}
}

// R2: what is told is the caller's own, and stays as it was told.
func TestMemoryTold(t *testing.T) {
	s, d := some(t)
	put, err := s.Put(0, "k", api.Vector{}, []byte("z"), false)
	if err != api.OK {
		t.Fatal(err)
	}
	check := same(t, s, d)
	get, _ := s.Get("k")
	entries, hints, bucket := s.All(), s.Hints(), s.Bucket(3)
	told := func() string { return text(put) + text(get) + texts(entries, hints) + texts(bucket, nil) }
	before := told()
	// Others that are told the same have memory of their own.
	for _, e := range append(s.All(), s.Bucket(3)...) {
		spoil(e.Sibs)
	}
	for _, h := range s.Hints() {
		spoil(h.Entry.Sibs)
	}
	if told() != before {
		t.Error(told())
	}
	check("told")
	s.Join(entry("k", api.Vector{9, 9}))
	s.Reap("dead")
	s.Hint(hint(5, "k", api.Vector{9, 9}))
	s.Unhint(2, "m", known(api.Vector{9, 9}))
	if told() != before {
		t.Error(told())
	}
	check = same(t, s, d)
	spoil(put)
	spoil(get)
	for i, e := range entries {
		spoil(e.Sibs)
		entries[i] = api.Entry{}
	}
	for i, h := range hints {
		spoil(h.Entry.Sibs)
		hints[i] = api.Hint{}
	}
	for i, e := range bucket {
		spoil(e.Sibs)
		bucket[i] = api.Entry{}
	}
	check("written over")
}

// R2: no two lists of one answer share memory.
func TestMemoryOfOneAnswer(t *testing.T) {
	s, _ := some(t)
	put, _ := s.Put(0, "k", api.Vector{}, []byte("z"), false)
	for name, told := range map[string]api.Sibs{"Put": put, "Get": func() api.Sibs { got, _ := s.Get("k"); return got }()} {
		for i := range told.Values {
			for j := range told.Values {
				told.Values[j].Data = append(told.Values[j].Data[:0], byte('a'+j))
			}
			told.Values[i].Data = append(told.Values[i].Data, "?????"...)
			for j, v := range told.Values {
				if j != i && string(v.Data) != string(rune('a'+j)) {
					t.Errorf("%s: %d, %d: %q", name, i, j, v.Data)
				}
			}
		}
	}
	entries, hints := s.All(), s.Hints()
	for i := range entries {
		spoil(entries[i].Sibs)
		again := s.All()
		for j := i + 1; j < len(entries); j++ {
			if text(entries[j].Sibs) != text(again[j].Sibs) {
				t.Error(i, j, text(entries[j].Sibs))
			}
		}
	}
	for i := range hints {
		spoil(hints[i].Entry.Sibs)
		again := s.Hints()
		for j := i + 1; j < len(hints); j++ {
			if text(hints[j].Entry.Sibs) != text(again[j].Entry.Sibs) {
				t.Error(i, j, text(hints[j].Entry.Sibs))
			}
		}
	}
}

// R3: a nil store tells ErrArg and zero values; one that Open did not make has no disk, so that nothing can be put there.
func TestNil(t *testing.T) {
	for name, s := range map[string]*Store{"nil": nil, "zero value": {}} {
		if got, err := s.Put(0, "k", api.Vector{}, []byte("x"), false); err != api.ErrArg || text(got) != zero || got.Values != nil {
			t.Error(name, text(got), err)
		}
		if changed, err := s.Join(entry("k", api.Vector{1}, val(0, 1, "x"))); changed || err != api.ErrArg {
			t.Error(name, changed, err)
		}
		if err := s.Hint(hint(1, "k", api.Vector{1}, val(0, 1, "x"))); err != api.ErrArg {
			t.Error(name, err)
		}
		if did, err := s.Unhint(1, "k", api.Sibs{}); did || s == nil && err != api.ErrArg {
			t.Error(name, did, err)
		}
		if did, err := s.Reap("k"); did || s == nil && err != api.ErrArg {
			t.Error(name, did, err)
		}
		if got, ok := s.Get("k"); ok || text(got) != zero || got.Values != nil {
			t.Error(name, text(got), ok)
		}
		if s.All() != nil || s.Bucket(0) != nil || s.Hints() != nil || s.Records() != 0 {
			t.Error(name, "not zero")
		}
	}
}

// R6: two stores have nothing in common.
func TestTwo(t *testing.T) {
	a, b := disk.New(999), disk.New(999)
	s, other := opened(t, a), opened(t, b)
	check := same(t, other, b)
	s.Put(0, "k", api.Vector{}, []byte("x"), false)
	s.Hint(hint(1, "k", api.Vector{1}))
	check("two stores")
}

// model is a store by the document's words: plain maps, and the records that its log has.
type model struct {
	most  int
	known map[string]api.Sibs
	kept  map[place]api.Sibs
	log   []string
}

// place is where a hint is kept.
type place struct {
	node int
	key  string
}

// entries and hints are what a model has, in order.
func (m *model) entries() []api.Entry {
	var out []api.Entry
	for _, key := range slices.Sorted(maps.Keys(m.known)) {
		out = append(out, api.Entry{Key: key, Sibs: m.known[key]})
	}
	return out
}

func (m *model) hints() []api.Hint {
	var out []api.Hint
	for p, s := range m.kept {
		out = append(out, api.Hint{For: p.node, Entry: api.Entry{Key: p.key, Sibs: s}})
	}
	slices.SortFunc(out, func(a, b api.Hint) int {
		return strings.Compare(fmt.Sprint(a.For, a.Entry.Key), fmt.Sprint(b.For, b.Entry.Key))
	})
	return out
}

// add appends a record, if need be to a log that is made short.
func (m *model) add(record string) api.Errno {
	fits := func() bool { return len(rows(m.log...))+len(framed(record)) <= m.most }
	if !fits() {
		m.log = nil
		for _, e := range m.entries() {
			m.log = append(m.log, entryRow(e))
		}
		for _, h := range m.hints() {
			m.log = append(m.log, hintRow(h))
		}
	}
	if !fits() {
		return api.ErrRoom
	}
	m.log = append(m.log, record)
	return api.OK
}

func (m *model) put(node int, key string, seen api.Vector, data []byte, dead bool) (api.Sibs, api.Errno) {
	next, err := sibs.Put(m.known[key], seen, node, data, dead)
	if err == api.OK {
		err = m.add(entryRow(api.Entry{Key: key, Sibs: next}))
	}
	if err != api.OK {
		return api.Sibs{}, err
	}
	m.known[key] = next
	return next, api.OK
}

func (m *model) join(e api.Entry) (bool, api.Errno) {
	had, there := m.known[e.Key]
	next := sibs.Join(had, e.Sibs)
	if there && text(next) == text(had) {
		return false, api.OK
	}
	if err := m.add(entryRow(e)); err != api.OK {
		return false, err
	}
	m.known[e.Key] = next
	return true, api.OK
}

func (m *model) hint(h api.Hint) api.Errno {
	p := place{h.For, h.Entry.Key}
	had, there := m.kept[p]
	next := sibs.Join(had, h.Entry.Sibs)
	if there && text(next) == text(had) {
		return api.OK
	}
	err := m.add(hintRow(h))
	if err == api.OK {
		m.kept[p] = next
	}
	return err
}

func (m *model) unhint(node int, key string, seen api.Sibs) (bool, api.Errno) {
	had, there := m.kept[place{node, key}]
	if !there || text(sibs.Join(had, seen)) != text(seen) {
		return false, api.OK
	}
	if err := m.add(unhintRow(node, key)); err != api.OK {
		return false, err
	}
	delete(m.kept, place{node, key})
	return true, api.OK
}

func (m *model) reap(key string) (bool, api.Errno) {
	had := m.known[key]
	lives := slices.ContainsFunc(had.Values, func(v api.Value) bool { return !v.Dead })
	if lives || len(had.Values) == 0 {
		return false, api.OK
	}
	if err := m.add(reapRow(key)); err != api.OK {
		return false, err
	}
	m.known[key] = api.Sibs{Seen: had.Seen}
	return true, api.OK
}

// randomSibs is of few events, so that many meet.
func randomSibs(r *rand.Rand) api.Sibs {
	var s api.Sibs
	for node := range 3 {
		s.Seen[node] = int64(r.Intn(4))
		for n := int64(1); n <= s.Seen[node]; n++ {
			switch r.Intn(5) {
			case 0:
				s.Values = append(s.Values, gone(node, n))
			case 1:
				s.Values = append(s.Values, val(node, n, string("abc"[r.Intn(3)])))
			}
		}
	}
	return s
}

// step does one call on both, and tells what each answered.
func step(r *rand.Rand, s *Store, m *model) (name, got, want string) {
	key := fmt.Sprint("k", r.Intn(4))
	node := r.Intn(3)
	known := randomSibs(r)
	switch r.Intn(6) {
	case 0, 1:
		dead := r.Intn(3) == 0
		data := []byte("some data")[:r.Intn(10)]
		if dead {
			data = nil
		}
		seen := known.Seen
		if r.Intn(2) == 0 {
			seen = m.known[key].Seen
		}
		a, err := s.Put(node, key, seen, data, dead)
		b, wantErr := m.put(node, key, seen, data, dead)
		return "Put", fmt.Sprint(text(a), err), fmt.Sprint(text(b), wantErr)
	case 2:
		a, err := s.Join(api.Entry{Key: key, Sibs: known})
		b, wantErr := m.join(api.Entry{Key: key, Sibs: known})
		return "Join", fmt.Sprint(a, err), fmt.Sprint(b, wantErr)
	case 3:
		h := api.Hint{For: node, Entry: api.Entry{Key: key, Sibs: known}}
		return "Hint", fmt.Sprint(s.Hint(h)), fmt.Sprint(m.hint(h))
	case 4:
		if r.Intn(2) == 0 {
			known = sibs.Join(known, m.kept[place{node, key}])
		}
		a, err := s.Unhint(node, key, known)
		b, wantErr := m.unhint(node, key, known)
		return "Unhint", fmt.Sprint(a, err), fmt.Sprint(b, wantErr)
	}
	a, err := s.Reap(key)
	b, wantErr := m.reap(key)
	return "Reap", fmt.Sprint(a, err), fmt.Sprint(b, wantErr)
}

// P12.1 to P12.4: long rows of calls and crashes, on disks from none to wide, held against the model byte by byte.
func TestRandom(t *testing.T) {
	refused, done, made := 0, 0, 0
	for seed := range int64(60) {
		r := rand.New(rand.NewSource(seed))
		m := &model{most: int(seed * seed), known: map[string]api.Sibs{}, kept: map[place]api.Sibs{}}
		d := disk.New(m.most)
		s := opened(t, d)
		for i := range 300 {
			records := len(m.log)
			name, got, want := step(r, s, m)
			if got != want {
				t.Fatalf("seed %d, %d: %s: %s; want %s", seed, i, name, got, want)
			}
			if strings.HasSuffix(got, fmt.Sprint(api.ErrRoom)) {
				refused++
			} else {
				done++
			}
			if len(m.log) < records {
				made++
			}
			if r.Intn(4) == 0 {
				// An end that is torn, of which a crash keeps a beginning.
				next := framed(entryRow(entry("torn", api.Vector{1})))
				d.Append([]byte(next[:min(r.Intn(len(next)), m.most-d.Size())]))
				d.Crash(r.Int())
				s = opened(t, d)
			}
			if all(s) != texts(m.entries(), m.hints()) || string(d.Bytes()) != rows(m.log...) || d.Sure() != d.Size() || s.Records() != len(m.log) {
				t.Fatalf("seed %d, %d: %s: %d records; want %d\n%swant\n%s", seed, i, name, s.Records(), len(m.log), all(s), texts(m.entries(), m.hints()))
			}
		}
	}
	if refused < 500 || done < 5000 || made < 100 {
		t.Error("one-sided:", refused, done, made)
	}
}

// P12.4: the event of a Put is none that was there, none that its writer had seen, and none of a Put before, whatever crashes come.
func TestDots(t *testing.T) {
	for seed := range int64(20) {
		r := rand.New(rand.NewSource(seed))
		d := disk.New(int(300 + 20*seed))
		s := opened(t, d)
		type event struct {
			key string
			dot api.Dot
		}
		made := map[event]int{}
		for i := range 300 {
			key, node := fmt.Sprint("k", r.Intn(2)), r.Intn(3)
			had, _ := s.Get(key)
			seen := had.Seen
			seen[r.Intn(3)] = int64(r.Intn(i + 2))
			got, err := s.Put(node, key, seen, nil, r.Intn(2) == 0)
			if err == api.OK {
				at := slices.IndexFunc(got.Values, func(v api.Value) bool { return v.Dot.Node == node && v.Dot.N == got.Seen[node] })
				if at < 0 {
					t.Fatal(seed, i, text(got))
				}
				dot := got.Values[at].Dot
				if made[event{key, dot}]++; made[event{key, dot}] > 1 || dot.N <= had.Seen[node] || dot.N <= seen[node] {
					t.Fatalf("seed %d, %d: (%d %d) of %s, seen %v", seed, i, node, dot.N, text(had), seen)
				}
			}
			switch r.Intn(6) {
			case 0:
				s.Reap(key)
			case 1:
				s.Join(api.Entry{Key: key, Sibs: randomSibs(r)})
			case 2:
				d.Crash(r.Int())
				s = opened(t, d)
			}
		}
		if len(made) < 50 {
			t.Error("too few:", len(made))
		}
	}
}
