package message

import (
	"bytes"
	"encoding/hex"
	"fmt"
	"math"
	"math/rand"
	"slices"
	"strings"
	"testing"

	"tattler/api"
)

const last = api.MaxNodes - 1

// has is what each kind has, by the chapter's words.
var has = map[int]string{
	api.MPut:    "Op Entries",
	api.MPutAck: "Op For Key Entries",
	api.MHint:   "Op For Entries",
	api.MGet:    "Op Key",
	api.MGot:    "Op Entries",
	api.MDigest: "Bucket Digests",
	api.MSync:   "Bucket Entries Digests",
	api.MPing:   "Members",
	api.MAck:    "Members",
}

// hasPart tells whether a kind has a part, by the chapter's words.
func hasPart(kind int, part string) bool {
	return slices.Contains(strings.Fields(has[kind]), part)
}

// kinds are all that there are.
var kinds = []int{api.MPut, api.MPutAck, api.MHint, api.MGet, api.MGot, api.MDigest, api.MSync, api.MPing, api.MAck}

// noKinds are below and above all kinds, also such as were a kind if they were cut to fewer bits.
var noKinds = []int{math.MinInt, math.MinInt + 4, -1<<32 + 4, -4, -1, 0, 10, 11, 1<<8 + 4, 1<<32 + 4, math.MaxInt}

// nodes are node numbers, below, within and above those that there are.
var nodes = []int{math.MinInt, -1 << 32, -api.MaxNodes, -1, 0, 1, last, api.MaxNodes, 1 << 8, 1 << 32, math.MaxInt}

// val is a value that is not dead.
func val(node int, n int64, data string) api.Value {
	return api.Value{Dot: api.Dot{Node: node, N: n}, Data: []byte(data)}
}

// gone is a dead value.
func gone(node int, n int64) api.Value {
	return api.Value{Dot: api.Dot{Node: node, N: n}, Dead: true}
}

// entry is a key and what is known of it.
func entry(key string, seen api.Vector, values ...api.Value) api.Entry {
	return api.Entry{Key: key, Sibs: api.Sibs{Seen: seen, Values: values}}
}

// told is a digest.
func told(key string, seen api.Vector, dots ...api.Dot) api.Digest {
	return api.Digest{Key: key, Seen: seen, Dots: dots}
}

// full is a message that may be with all that there is, whether its kind has it or not.
func full(kind int) api.Message {
	return api.Message{
		Kind: kind, From: 1, To: 2, Op: 3, For: 4, Key: "a", Bucket: 3,
		Entries: []api.Entry{entry("k", api.Vector{2, 1}, val(0, 2, "xy"), gone(1, 1))},
		Digests: []api.Digest{told("d", api.Vector{1, 64}, api.Dot{N: 1}, api.Dot{Node: 1, N: 64})},
		Members: []api.Member{{State: api.Suspect, Inc: 2}, {State: api.Dead, Inc: 100}},
	}
}

// least is a message that may be with as little as may be.
func least(kind int) api.Message {
	m := api.Message{Kind: kind}
	switch kind {
	case api.MGet:
		m.Key = "k"
	case api.MHint:
		m.Entries = []api.Entry{entry("k", api.Vector{})}
	}
	return m
}

// greatest is a message with every number and text at its end.
func greatest(kind int) api.Message {
	e := entry(strings.Repeat("\xff", api.MaxKey), api.Vector{})
	d := told(e.Key, api.Vector{})
	for node := range api.MaxNodes {
		e.Sibs.Seen[node], d.Seen[node] = api.MaxCount, api.MaxCount
		for n := int64(api.MaxCount - 1); n <= api.MaxCount; n++ {
			e.Sibs.Values = append(e.Sibs.Values, val(node, n, strings.Repeat("d", api.MaxData)))
			d.Dots = append(d.Dots, api.Dot{Node: node, N: n})
		}
	}
	m := api.Message{
		Kind: kind, From: last, To: last, Op: api.MaxCount, For: last, Key: e.Key, Bucket: api.Buckets - 1,
		Entries: []api.Entry{e}, Digests: []api.Digest{d},
	}
	for range api.MaxNodes {
		m.Members = append(m.Members, api.Member{State: api.Dead, Inc: api.MaxCount})
	}
	return m
}

// with is m, changed.
func with(m api.Message, turn func(m *api.Message)) api.Message {
	turn(&m)
	return m
}

// text tells a message as it stands, by a way of the test's own: nil and empty lists are one.
func text(m api.Message) string {
	var out strings.Builder
	fmt.Fprintf(&out, "%d %d %d op %d for %d key %q bucket %d", m.Kind, m.From, m.To, m.Op, m.For, m.Key, m.Bucket)
	for _, e := range m.Entries {
		fmt.Fprintf(&out, "\nentry %q %v", e.Key, e.Sibs.Seen)
		for _, v := range e.Sibs.Values {
			fmt.Fprintf(&out, " (%d %d) %q %v", v.Dot.Node, v.Dot.N, v.Data, v.Dead)
		}
	}
	for _, d := range m.Digests {
		fmt.Fprintf(&out, "\ndigest %q %v %v", d.Key, d.Seen, d.Dots)
	}
	for _, x := range m.Members {
		fmt.Fprintf(&out, "\nmember %d %d", x.State, x.Inc)
	}
	return out.String()
}

// nothing is the text of the zero message.
var nothing = text(api.Message{})

// isNothing tells whether m is the zero message.
func isNothing(m api.Message) bool {
	return text(m) == nothing && len(m.Entries)+len(m.Digests)+len(m.Members) == 0
}

// plainByWords is m without what its kind has not, by the chapter's words; it shares m's lists.
func plainByWords(m api.Message) api.Message {
	for part, drop := range map[string]func(){
		"Op": func() { m.Op = 0 }, "For": func() { m.For = 0 }, "Key": func() { m.Key = "" }, "Bucket": func() { m.Bucket = 0 },
		"Entries": func() { m.Entries = nil }, "Digests": func() { m.Digests = nil }, "Members": func() { m.Members = nil },
	} {
		if !hasPart(m.Kind, part) {
			drop()
		}
	}
	return m
}

// form is bytes that the test makes by itself, and where in them numbers stand.
type form struct {
	bytes []byte
	nums  []place
}

// place is where a number begins and ends.
type place struct{ from, to int }

// num appends a Num.
func (f *form) num(n uint64) {
	from := len(f.bytes)
	for ; n >= 128; n /= 128 {
		f.bytes = append(f.bytes, byte(n%128+128))
	}
	f.bytes = append(f.bytes, byte(n))
	f.nums = append(f.nums, place{from, len(f.bytes)})
}

// int appends an Int.
func (f *form) int(n int64) {
	if n < 0 {
		f.num(uint64(-(n+1))*2 + 1)
		return
	}
	f.num(uint64(n) * 2)
}

// text appends a Text.
func (f *form) text(s string) {
	f.num(uint64(len(s)))
	f.bytes = append(f.bytes, s...)
}

// key appends what entries and digests begin with.
func (f *form) key(key string, seen api.Vector) {
	f.text(key)
	for _, n := range seen {
		f.int(n)
	}
}

// entry appends an entry.
func (f *form) entry(e api.Entry) {
	f.key(e.Key, e.Sibs.Seen)
	f.num(uint64(len(e.Sibs.Values)))
	for _, v := range e.Sibs.Values {
		f.num(uint64(v.Dot.Node))
		f.int(v.Dot.N)
		if v.Dead {
			f.bytes = append(f.bytes, 1)
		} else {
			f.bytes = append(f.bytes, 0)
		}
		f.text(string(v.Data))
	}
}

// digest appends a digest.
func (f *form) digest(d api.Digest) {
	f.key(d.Key, d.Seen)
	f.num(uint64(len(d.Dots)))
	for _, x := range d.Dots {
		f.num(uint64(x.Node))
		f.int(x.N)
	}
}

// formOf is the bytes of a message by the chapter's words, as it stands, whether it may be or not.
func formOf(m api.Message) form {
	var f form
	f.num(uint64(m.Kind))
	f.num(uint64(m.From))
	f.num(uint64(m.To))
	if hasPart(m.Kind, "Op") {
		f.int(m.Op)
	}
	if hasPart(m.Kind, "For") {
		f.num(uint64(m.For))
	}
	if hasPart(m.Kind, "Key") {
		f.text(m.Key)
	}
	if hasPart(m.Kind, "Bucket") {
		f.num(uint64(m.Bucket))
	}
	if hasPart(m.Kind, "Entries") {
		f.num(uint64(len(m.Entries)))
		for _, e := range m.Entries {
			f.entry(e)
		}
	}
	if hasPart(m.Kind, "Digests") {
		f.num(uint64(len(m.Digests)))
		for _, d := range m.Digests {
			f.digest(d)
		}
	}
	if hasPart(m.Kind, "Members") {
		f.num(uint64(len(m.Members)))
		for _, x := range m.Members {
			f.num(uint64(x.State))
			f.int(x.Inc)
		}
	}
	return f
}

// right fails the test, unless m may be, and is written and read by the chapter's words.
func right(t *testing.T, what string, m api.Message) {
	t.Helper()
	before, plain, want := text(m), text(plainByWords(m)), formOf(m).bytes
	if !May(m) {
		t.Fatalf("%s: it may not be: %s", what, before)
	}
	b, err := Encode(m)
	if err != api.OK || !bytes.Equal(b, want) {
		t.Fatalf("%s: %x, %d, want %x", what, b, err, want)
	}
	x, err := Decode(b)
	if err != api.OK || text(x) != plain || !Same(x, m) || !Same(m, x) || text(Plain(m)) != plain {
		t.Fatalf("%s: read as %s, %d, want %s", what, text(x), err, plain)
	}
	if text(m) != before || !bytes.Equal(b, want) {
		t.Fatalf("%s: it was changed", what)
	}
}

// wrong fails the test, unless m may not be, and neither it nor its bytes are taken.
func wrong(t *testing.T, what string, m api.Message) {
	t.Helper()
	before := text(m)
	if May(m) {
		t.Fatalf("%s: it may be: %s", what, before)
	}
	if b, err := Encode(m); err != api.ErrArg || b != nil {
		t.Fatalf("%s: %x, %d, want ErrArg", what, b, err)
	}
	if b := formOf(m).bytes; len(b) <= api.MaxBytes {
		noForm(t, what, b)
	}
	if text(Plain(m)) != text(plainByWords(m)) || !Same(m, m) || text(m) != before {
		t.Fatalf("%s: Plain, Same take it as it stands", what)
	}
}

// noForm fails the test, unless b is no message.
func noForm(t *testing.T, what string, b []byte) {
	t.Helper()
	before := slices.Clone(b)
	if m, err := Decode(b); err != api.ErrForm || !isNothing(m) {
		t.Fatalf("%s: %x is %s, %d, want ErrForm", what, before, text(m), err)
	}
	if !bytes.Equal(b, before) {
		t.Fatalf("%s: the bytes were changed", what)
	}
}

// raw is bytes in base 16, with blanks.
func raw(t *testing.T, s string) []byte {
	t.Helper()
	b, err := hex.DecodeString(strings.ReplaceAll(s, " ", ""))
	if err != nil {
		t.Fatal(s, err)
	}
	return b
}

// P20.2: the bytes of each kind, with all and with the least that it may have.
func TestForms(t *testing.T) {
	const entries = "01 01 6b 0402000000000000 02 00 04 00 02 7879 01 02 01 00"
	const digests = "01 01 64 0280010000000000 00 02 00 02 01 8001"
	const members = "02 01 04 02 c801"
	for kind, want := range map[int][2]string{
		api.MPut:    {"01 01 02 06" + entries, "01 00 00 00 00"},
		api.MPutAck: {"02 01 02 06 04 01 61" + entries, "02 00 00 00 00 00 00"},
		api.MHint:   {"03 01 02 06 04" + entries, "03 00 00 00 00 01 01 6b 0000000000000000 00"},
		api.MGet:    {"04 01 02 06 01 61", "04 00 00 00 01 6b"},
		api.MGot:    {"05 01 02 06" + entries, "05 00 00 00 00"},
		api.MDigest: {"06 01 02 03" + digests, "06 00 00 00 00"},
		api.MSync:   {"07 01 02 03" + entries + digests, "07 00 00 00 00 00"},
		api.MPing:   {"08 01 02" + members, "08 00 00 00"},
		api.MAck:    {"09 01 02" + members, "09 00 00 00"},
	} {
		for i, m := range []api.Message{full(kind), least(kind)} {
			b, err := Encode(m)
			if err != api.OK || !bytes.Equal(b, raw(t, want[i])) {
				t.Errorf("%d: %x, %d, want %s", kind, b, err, want[i])
			}
			right(t, fmt.Sprint(kind), m)
		}
		right(t, fmt.Sprint(kind, " at all ends"), greatest(kind))
	}
}

// P20.2: what a kind has not isn't written, and needs not be what may be.
func TestFormHasNot(t *testing.T) {
	for _, kind := range kinds {
		m := full(kind)
		for part, turn := range mayNot() {
			if !hasPart(kind, part) {
				for _, spoil := range turn {
					spoil(&m)
				}
			}
		}
		right(t, fmt.Sprint(kind), m)
		want, err := Encode(full(kind))
		if b, _ := Encode(m); err != api.OK || !bytes.Equal(b, want) {
			t.Errorf("%d: %x, want %x", kind, b, want)
		}
		if b, _ := Encode(plainByWords(m)); !bytes.Equal(b, want) {
			t.Errorf("%d, plain: %x, want %x", kind, b, want)
		}
	}
}

// P20.1: kinds below, within and above.
func TestMayKind(t *testing.T) {
	for kind := api.MPut; kind <= api.MAck; kind++ {
		right(t, fmt.Sprint(kind), full(kind))
	}
	for _, kind := range noKinds {
		wrong(t, fmt.Sprint(kind), full(kind))
		wrong(t, fmt.Sprint(kind), api.Message{Kind: kind})
	}
	wrong(t, "nothing", api.Message{})
}

// P20.1: From and To of each kind, For and Bucket of those that have them.
func TestMayNodes(t *testing.T) {
	held := func(what string, m api.Message, may bool) {
		t.Helper()
		if may {
			right(t, what, m)
		} else {
			wrong(t, what, m)
		}
	}
	for _, kind := range kinds {
		for _, n := range nodes {
			isNode := n >= 0 && n < api.MaxNodes
			held(fmt.Sprintf("%d from %d", kind, n), with(full(kind), func(m *api.Message) { m.From = n }), isNode)
			held(fmt.Sprintf("%d to %d", kind, n), with(full(kind), func(m *api.Message) { m.To = n }), isNode)
			held(fmt.Sprintf("%d for %d", kind, n), with(full(kind), func(m *api.Message) { m.For = n }), isNode || !hasPart(kind, "For"))
		}
		for _, n := range []int{math.MinInt, -api.Buckets, -1, 0, 1, api.Buckets - 1, api.Buckets, api.MaxNodes, 1 << 8, 1 << 32, math.MaxInt} {
			isBucket := n >= 0 && n < api.Buckets
			held(fmt.Sprintf("%d, bucket %d", kind, n), with(full(kind), func(m *api.Message) { m.Bucket = n }), isBucket || !hasPart(kind, "Bucket"))
		}
	}
	// A node may tell itself: May does not ask.
	right(t, "from a node to itself", with(full(api.MPing), func(m *api.Message) { m.To = m.From }))
}

// P20.1: the numbers of operations.
func TestMayOp(t *testing.T) {
	for _, kind := range kinds {
		for _, n := range []int64{0, 1, 63, 64, api.MaxCount - 1, api.MaxCount} {
			right(t, fmt.Sprintf("%d, op %d", kind, n), with(full(kind), func(m *api.Message) { m.Op = n }))
		}
		for _, n := range []int64{math.MinInt64, -api.MaxCount, -1, api.MaxCount + 1, math.MaxInt64} {
			m := with(full(kind), func(m *api.Message) { m.Op = n })
			if hasPart(kind, "Op") {
				wrong(t, fmt.Sprintf("%d, op %d", kind, n), m)
			} else {
				right(t, fmt.Sprintf("%d, op %d", kind, n), m)
			}
		}
	}
}

// P20.1: how long a key is: MGet has one, MPutAck need not.
func TestMayKey(t *testing.T) {
	for _, kind := range kinds {
		for _, size := range []int{0, 1, 2, api.MaxKey - 1, api.MaxKey, api.MaxKey + 1, 2 * api.MaxKey, 1 << 8, 1 << 17} {
			m := with(full(kind), func(m *api.Message) { m.Key = strings.Repeat("\x00", size) })
			if hasPart(kind, "Key") && (size > api.MaxKey || size == 0 && kind == api.MGet) {
				wrong(t, fmt.Sprintf("%d, a key of %d", kind, size), m)
			} else {
				right(t, fmt.Sprintf("%d, a key of %d", kind, size), m)
			}
		}
	}
}

// entriesOfOne is so many entries that may be.
func entriesOfOne(n int) []api.Entry {
	var out []api.Entry
	for i := range n {
		out = append(out, entry(fmt.Sprint(i), api.Vector{2, int64(i)}, gone(0, 1), val(0, 2, fmt.Sprint(i%7))))
	}
	return out
}

// digestsOfOne is so many digests that may be.
func digestsOfOne(n int) []api.Digest {
	var out []api.Digest
	for i := range n {
		out = append(out, told(fmt.Sprint(i), api.Vector{2, int64(i)}, api.Dot{N: 2}))
	}
	return out
}

// membersOfOne is so many members that may be.
func membersOfOne(n int) []api.Member {
	var out []api.Member
	for i := range n {
		out = append(out, api.Member{State: i % 3, Inc: int64(50 * i)})
	}
	return out
}

// mostOf is the most that a kind may have of a list that it has, by the chapter's words.
func mostOf(kind int, list string) int {
	switch {
	case list == "Members":
		return api.MaxNodes
	case list == "Entries" && (kind == api.MHint || kind == api.MGot || kind == api.MPutAck):
		return 1
	}
	return api.MaxKeys
}

// P20.1: how many entries, digests, members there are.
func TestMayMany(t *testing.T) {
	lists := map[string]func(m *api.Message, n int){
		"Entries": func(m *api.Message, n int) { m.Entries = entriesOfOne(n) },
		"Digests": func(m *api.Message, n int) { m.Digests = digestsOfOne(n) },
		"Members": func(m *api.Message, n int) { m.Members = membersOfOne(n) },
	}
	for _, kind := range kinds {
		for list, set := range lists {
			for _, n := range []int{0, 1, 2, 3, api.MaxNodes - 1, api.MaxNodes, api.MaxNodes + 1, api.MaxKeys - 1, api.MaxKeys, api.MaxKeys + 1, 2 * api.MaxKeys} {
				what := fmt.Sprintf("%d, %d %s", kind, n, list)
				m := with(full(kind), func(m *api.Message) { set(m, n) })
				if hasPart(kind, list) && (n > mostOf(kind, list) || n == 0 && kind == api.MHint) {
					wrong(t, what, m)
				} else {
					right(t, what, m)
				}
			}
		}
	}
	both := with(full(api.MSync), func(m *api.Message) { m.Entries, m.Digests = entriesOfOne(api.MaxKeys), digestsOfOne(api.MaxKeys) })
	right(t, "as many as may be of both", both)
	right(t, "one key twice", with(full(api.MPut), func(m *api.Message) { m.Entries = append(entriesOfOne(3), entriesOfOne(3)...) }))
}

// P20.1: empty lists are none, for those that may be without and for MHint.
func TestMayEmpty(t *testing.T) {
	for _, kind := range kinds {
		m := full(kind)
		m.Entries, m.Digests, m.Members = []api.Entry{}, []api.Digest{}, []api.Member{}
		if kind == api.MHint {
			wrong(t, "a hint of nothing", m)
			continue
		}
		right(t, fmt.Sprint(kind), m)
		bare := m
		bare.Entries, bare.Digests, bare.Members = nil, nil, nil
		if !Same(m, bare) || !Same(bare, m) {
			t.Errorf("%d: nil and empty lists are one", kind)
		}
	}
}

// badEntries are entries that may not be.
func badEntries() map[string]api.Entry {
	seen := api.Vector{2, 1}
	return map[string]api.Entry{
		"zero":                 {},
		"no key":               entry("", seen, val(0, 1, "x")),
		"a key too long":       entry(strings.Repeat("k", api.MaxKey+1), seen),
		"a count below 0":      entry("k", api.Vector{0, -1}),
		"a count above all":    entry("k", api.Vector{7: api.MaxCount + 1}),
		"a dot not covered":    entry("k", seen, val(0, 3, "x")),
		"a dot of no node":     entry("k", seen, val(api.MaxNodes, 1, "x")),
		"a dot below all":      entry("k", seen, val(0, 0, "x")),
		"dots that fall":       entry("k", seen, val(0, 2, "x"), val(0, 1, "x")),
		"one dot twice":        entry("k", seen, val(0, 2, "x"), val(0, 2, "x")),
		"data too long":        entry("k", seen, val(0, 1, strings.Repeat("x", api.MaxData+1))),
		"a dead one with data": entry("k", seen, api.Value{Dot: api.Dot{N: 1}, Data: []byte("x"), Dead: true}),
	}
}

// badDigests are digests that may not be.
func badDigests() map[string]api.Digest {
	seen := api.Vector{2, 1}
	return map[string]api.Digest{
		"zero":              {},
		"no key":            told("", seen, api.Dot{N: 1}),
		"a key too long":    told(strings.Repeat("k", api.MaxKey+1), seen),
		"a count below 0":   told("k", api.Vector{0, -1}),
		"a count above all": told("k", api.Vector{7: api.MaxCount + 1}),
		"a dot not covered": told("k", seen, api.Dot{N: 3}),
		"a dot of no node":  told("k", seen, api.Dot{Node: -1, N: 1}),
		"dots that fall":    told("k", seen, api.Dot{Node: 1, N: 1}, api.Dot{N: 1}),
		"one dot twice":     told("k", seen, api.Dot{N: 1}, api.Dot{N: 1}),
	}
}

// badMembers are members that may not be.
func badMembers() map[string]api.Member {
	return map[string]api.Member{
		"a state below all":  {State: -1},
		"a state above all":  {State: 3},
		"a state far above":  {State: 1 << 32, Inc: 1},
		"an Inc below 0":     {Inc: -1},
		"an Inc above all":   {State: api.Dead, Inc: api.MaxCount + 1},
		"both far above all": {State: math.MaxInt, Inc: math.MaxInt64},
	}
}

// mayNot is for each part ways to spoil it.
func mayNot() map[string][]func(m *api.Message) {
	out := map[string][]func(m *api.Message){
		"Op":     {func(m *api.Message) { m.Op = -1 }, func(m *api.Message) { m.Op = api.MaxCount + 1 }},
		"For":    {func(m *api.Message) { m.For = -1 }, func(m *api.Message) { m.For = api.MaxNodes }},
		"Key":    {func(m *api.Message) { m.Key = strings.Repeat("k", api.MaxKey+1) }},
		"Bucket": {func(m *api.Message) { m.Bucket = -1 }, func(m *api.Message) { m.Bucket = api.Buckets }},
	}
	for _, e := range badEntries() {
		out["Entries"] = append(out["Entries"], func(m *api.Message) { m.Entries = []api.Entry{e} })
	}
	for _, d := range badDigests() {
		out["Digests"] = append(out["Digests"], func(m *api.Message) { m.Digests = []api.Digest{d} })
	}
	for _, x := range badMembers() {
		out["Members"] = append(out["Members"], func(m *api.Message) { m.Members = []api.Member{x} })
	}
	return out
}

// P20.1: one part that may not be: of a kind that has it the message may not be, of others it may.
func TestMayParts(t *testing.T) {
	for _, kind := range kinds {
		for part, turns := range mayNot() {
			for i, turn := range turns {
				what := fmt.Sprintf("%d, %s %d", kind, part, i)
				if hasPart(kind, part) {
					wrong(t, what, with(full(kind), turn))
				} else {
					right(t, what, with(full(kind), turn))
				}
			}
		}
	}
}

// P20.1: one of a list that may not be, wherever it stands.
func TestMayOneOfMany(t *testing.T) {
	for _, n := range []int{2, 5, api.MaxNodes, 20, api.MaxKeys} {
		for _, at := range []int{0, 1, n / 2, n - 1} {
			for _, kind := range []int{api.MPut, api.MSync} {
				for what, e := range badEntries() {
					wrong(t, what, with(full(kind), func(m *api.Message) { m.Entries = entriesOfOne(n); m.Entries[at] = e }))
				}
			}
			for _, kind := range []int{api.MDigest, api.MSync} {
				for what, d := range badDigests() {
					wrong(t, what, with(full(kind), func(m *api.Message) { m.Digests = digestsOfOne(n); m.Digests[at] = d }))
				}
			}
			for _, kind := range []int{api.MPing, api.MAck} {
				for what, x := range badMembers() {
					if n <= api.MaxNodes {
						wrong(t, what, with(full(kind), func(m *api.Message) { m.Members = membersOfOne(n); m.Members[at] = x }))
					}
				}
			}
		}
	}
}

// P20.1: Plain is what the kind has alone.
func TestPlain(t *testing.T) {
	for _, kind := range append(slices.Clone(kinds), noKinds...) {
		for _, m := range []api.Message{full(kind), greatest(kind), least(kind), {Kind: kind, From: -5, To: math.MaxInt}} {
			if got := Plain(m); text(got) != text(plainByWords(m)) || text(Plain(got)) != text(got) {
				t.Errorf("%d: %s, want %s", kind, text(got), text(plainByWords(m)))
			}
		}
		if has[kind] == "" && text(Plain(full(kind))) != text(api.Message{Kind: kind, From: 1, To: 2}) {
			t.Errorf("%d: %s", kind, text(Plain(full(kind))))
		}
	}
}

// changes are for each part ways to have another one; each is another one than the others make.
func changes() map[string][]func(m *api.Message) {
	ofEntry := func(turn func(e *api.Entry)) func(m *api.Message) {
		return func(m *api.Message) { turn(&m.Entries[0]) }
	}
	ofDigest := func(turn func(d *api.Digest)) func(m *api.Message) {
		return func(m *api.Message) { turn(&m.Digests[0]) }
	}
	return map[string][]func(m *api.Message){
		"From":   {func(m *api.Message) { m.From = 0 }, func(m *api.Message) { m.From = -1 }},
		"To":     {func(m *api.Message) { m.To = 0 }, func(m *api.Message) { m.To = api.MaxNodes }},
		"Op":     {func(m *api.Message) { m.Op = 0 }, func(m *api.Message) { m.Op = 4 }, func(m *api.Message) { m.Op = 3 + 1<<32 }, func(m *api.Message) { m.Op = -3 }},
		"For":    {func(m *api.Message) { m.For = 0 }, func(m *api.Message) { m.For = 5 }},
		"Key":    {func(m *api.Message) { m.Key = "" }, func(m *api.Message) { m.Key = "b" }, func(m *api.Message) { m.Key = "aa" }},
		"Bucket": {func(m *api.Message) { m.Bucket = 0 }, func(m *api.Message) { m.Bucket = 2 }},
		"Entries": {
			func(m *api.Message) { m.Entries = nil },
			func(m *api.Message) { m.Entries = append(m.Entries, m.Entries[0]) },
			func(m *api.Message) { m.Entries = append(m.Entries, entriesOfOne(1)...) },
			func(m *api.Message) { m.Entries = append(entriesOfOne(1), m.Entries...) },
			ofEntry(func(e *api.Entry) { e.Key = "l" }),
			ofEntry(func(e *api.Entry) { e.Sibs.Seen[0] = 3 }),
			ofEntry(func(e *api.Entry) { e.Sibs.Seen[last] = 1 }),
			ofEntry(func(e *api.Entry) { e.Sibs.Values = nil }),
			ofEntry(func(e *api.Entry) { e.Sibs.Values = e.Sibs.Values[:1] }),
			ofEntry(func(e *api.Entry) { e.Sibs.Values[0].Dot.N = 1 }),
			ofEntry(func(e *api.Entry) { e.Sibs.Values[1].Dot.Node = 2 }),
			ofEntry(func(e *api.Entry) { e.Sibs.Values[0].Data[1] = 'z' }),
			ofEntry(func(e *api.Entry) { e.Sibs.Values[0].Data = nil }),
			ofEntry(func(e *api.Entry) { e.Sibs.Values[1].Dead = false }),
		},
		"Digests": {
			func(m *api.Message) { m.Digests = nil },
			func(m *api.Message) { m.Digests = append(m.Digests, m.Digests[0]) },
			func(m *api.Message) { m.Digests = append(m.Digests, digestsOfOne(1)...) },
			func(m *api.Message) { m.Digests = append(digestsOfOne(1), m.Digests...) },
			ofDigest(func(d *api.Digest) { d.Key = "e" }),
			ofDigest(func(d *api.Digest) { d.Seen[1] = 65 }),
			ofDigest(func(d *api.Digest) { d.Seen[last] = 1 }),
			ofDigest(func(d *api.Digest) { d.Dots = nil }),
			ofDigest(func(d *api.Digest) { d.Dots = d.Dots[:1] }),
			ofDigest(func(d *api.Digest) { d.Dots[1].N = 63 }),
			ofDigest(func(d *api.Digest) { d.Dots[0].Node = 3 }),
		},
		"Members": {
			func(m *api.Message) { m.Members = nil },
			func(m *api.Message) { m.Members = m.Members[:1] },
			func(m *api.Message) { m.Members = append(m.Members, api.Member{}) },
			func(m *api.Message) { m.Members[0], m.Members[1] = m.Members[1], m.Members[0] },
			func(m *api.Message) { m.Members[0].State = api.Dead },
			func(m *api.Message) { m.Members[1].Inc = 101 },
		},
	}
}

// P20.1: Same asks for all that a kind has, and for nothing else.
func TestSame(t *testing.T) {
	for _, kind := range append(slices.Clone(kinds), noKinds...) {
		if !Same(full(kind), full(kind)) {
			t.Errorf("%d is not the same as itself", kind)
		}
		for part, turns := range changes() {
			one := part == "From" || part == "To" || hasPart(kind, part)
			for i, turn := range turns {
				m := with(full(kind), turn)
				if Same(m, full(kind)) == one || Same(full(kind), m) == one || !Same(m, with(full(kind), turn)) {
					t.Errorf("%d, %s %d: the same: %v, %v", kind, part, i, Same(m, full(kind)), Same(full(kind), m))
				}
				for j, other := range turns {
					if o := with(full(kind), other); one && i != j && Same(m, o) {
						t.Errorf("%d, %s: %d is the same as %d", kind, part, i, j)
					}
				}
			}
		}
		for _, other := range append(slices.Clone(kinds), noKinds...) {
			m := full(kind)
			m.Kind = other
			if Same(m, full(kind)) != (kind == other) {
				t.Errorf("%d, %d: the same: %v", kind, other, kind != other)
			}
		}
	}
	// MPing and MAck, MPut and MGot have the same parts, and are not the same.
	if Same(least(api.MPing), least(api.MAck)) || Same(least(api.MPut), least(api.MGot)) {
		t.Error("kinds")
	}
}

// P20.1: Same is just where Plain is alike, also of what may not be.
func TestSameIsPlain(t *testing.T) {
	r := rand.New(rand.NewSource(1))
	met := 0
	for range 20000 {
		a, b := some(r), some(r)
		if r.Intn(2) == 0 {
			b = plainByWords(a)
		}
		want := text(plainByWords(a)) == text(plainByWords(b))
		if Same(a, b) != want || Same(b, a) != want || (text(Plain(a)) == text(Plain(b))) != want {
			t.Fatalf("%s\n%s: %v", text(a), text(b), !want)
		}
		if want {
			met++
		}
	}
	if met < 5000 || met > 15000 {
		t.Error(met)
	}
}

// some is any message, of few numbers, so that it often may be and two are often alike in something.
func some(r *rand.Rand) api.Message {
	m := api.Message{Kind: r.Intn(11), From: r.Intn(9), To: r.Intn(9), Op: int64(r.Intn(3)), For: r.Intn(9), Key: strings.Repeat("k", r.Intn(3)), Bucket: r.Intn(5)}
	for range r.Intn(3) {
		e := entry(strings.Repeat("e", 1+r.Intn(2)), api.Vector{int64(r.Intn(3)), int64(r.Intn(70))})
		for n := int64(1); n <= e.Sibs.Seen[0]; n++ {
			switch r.Intn(3) {
			case 0:
				e.Sibs.Values = append(e.Sibs.Values, val(0, n, strings.Repeat("v", r.Intn(3))))
			case 1:
				e.Sibs.Values = append(e.Sibs.Values, gone(0, n))
			}
		}
		m.Entries = append(m.Entries, e)
	}
	for range r.Intn(3) {
		d := told("d", api.Vector{2, int64(r.Intn(3))})
		for n := range int64(r.Intn(3)) {
			d.Dots = append(d.Dots, api.Dot{N: n + 1})
		}
		m.Digests = append(m.Digests, d)
	}
	for range r.Intn(3) {
		m.Members = append(m.Members, api.Member{State: r.Intn(3), Inc: int64(r.Intn(3))})
	}
	return m
}

// mayByWords tells whether some message may be: of what it has, only what is asked for here can be out of bounds.
func mayByWords(m api.Message) bool {
	return m.Kind >= 1 && m.Kind <= 9 && m.From < 8 && m.To < 8 &&
		!(hasPart(m.Kind, "For") && m.For > 7) && !(hasPart(m.Kind, "Bucket") && m.Bucket > 3) &&
		!(m.Kind == api.MGet && m.Key == "") &&
		!(m.Kind == api.MHint && len(m.Entries) != 1) &&
		!(hasPart(m.Kind, "Entries") && len(m.Entries) > mostOf(m.Kind, "Entries"))
}

// P20.1, P20.2, P20.3: any messages, held against the chapter's words.
func TestAny(t *testing.T) {
	r := rand.New(rand.NewSource(2))
	may := 0
	for range 30000 {
		m := some(r)
		if mayByWords(m) {
			may++
			right(t, "any", m)
		} else {
			wrong(t, "any", m)
		}
	}
	if may < 5000 {
		t.Error(may)
	}
}

// filled is a message of that kind with just so many bytes, by its entries: MPut or MSync.
func filled(t *testing.T, kind, size int) api.Message {
	t.Helper()
	m := with(full(kind), func(m *api.Message) { m.Entries = nil })
	// A value has four bytes more than its data, if these are fewer than 128.
	const value = 4
	for i := range 128 {
		m.Entries = append(m.Entries, entry(string(rune('a'+i%26)), api.Vector{16}))
	}
	missing := size - len(formOf(m).bytes)
	for i := range m.Entries {
		s := &m.Entries[i].Sibs
		for n := int64(1); n <= api.MaxValues && missing >= value; n++ {
			data := min(missing-value, 100)
			if rest := missing - value - data; rest > 0 && rest < value {
				data -= value
			}
			s.Values = append(s.Values, val(0, n, strings.Repeat("x", data)))
			missing -= value + data
		}
	}
	if got := len(formOf(m).bytes); got != size {
		t.Fatalf("%d bytes, want %d", got, size)
	}
	return m
}

// P20.2: messages of just MaxBytes bytes, of fewer and of more.
func TestLong(t *testing.T) {
	for _, kind := range []int{api.MPut, api.MSync} {
		for _, size := range []int{api.MaxBytes - 2, api.MaxBytes - 1, api.MaxBytes} {
			right(t, fmt.Sprint(kind, " of ", size), filled(t, kind, size))
		}
		for _, size := range []int{api.MaxBytes + 1, api.MaxBytes + 2, api.MaxBytes + 200, 2 * api.MaxBytes} {
			m := filled(t, kind, size)
			if b, err := Encode(m); !May(m) || err != api.ErrLong || b != nil {
				t.Errorf("%d of %d: %d bytes, %d", kind, size, len(b), err)
			}
			if x, err := Decode(formOf(m).bytes); err != api.ErrLong || !isNothing(x) {
				t.Errorf("%d of %d: %s, %d", kind, size, text(x), err)
			}
			// What may not be is told ahead of what is too long.
			m.To = api.MaxNodes
			if b, err := Encode(m); err != api.ErrArg || b != nil {
				t.Errorf("%d of %d, to no node: %d bytes, %d", kind, size, len(b), err)
			}
		}
	}
	// Digests alone are never too long.
	many := slices.Repeat(greatest(api.MDigest).Digests, api.MaxKeys)
	right(t, "as many and as long digests as may be", with(full(api.MDigest), func(m *api.Message) { m.Digests = many }))
	m := with(filled(t, api.MSync, api.MaxBytes), func(m *api.Message) { m.Digests = many })
	if b, err := Encode(m); err != api.ErrLong || b != nil {
		t.Errorf("entries and digests: %d bytes, %d", len(b), err)
	}
}

// P20.2: more than MaxBytes bytes are ErrLong, whatever they are.
func TestDecodeLong(t *testing.T) {
	for _, b := range [][]byte{
		make([]byte, api.MaxBytes+1), make([]byte, 2*api.MaxBytes),
		bytes.Repeat([]byte{0xff}, api.MaxBytes+1),
		append(formOf(full(api.MSync)).bytes, make([]byte, api.MaxBytes)...),
		append(formOf(filled(t, api.MPut, api.MaxBytes)).bytes, 0),
	} {
		if m, err := Decode(b); err != api.ErrLong || !isNothing(m) {
			t.Errorf("%d bytes: %s, %d", len(b), text(m), err)
		}
	}
	noForm(t, "zeros", make([]byte, api.MaxBytes))
	noForm(t, "ones", bytes.Repeat([]byte{0xff}, api.MaxBytes))
	b := append(formOf(full(api.MSync)).bytes, make([]byte, api.MaxBytes)...)
	noForm(t, "a message and zeros", b[:api.MaxBytes])
}

// P20.2: bytes cut short at every place, and bytes behind the end.
func TestDecodeCut(t *testing.T) {
	noForm(t, "nothing", nil)
	noForm(t, "nothing", []byte{})
	for _, kind := range kinds {
		for _, m := range []api.Message{full(kind), least(kind), greatest(kind)} {
			b := formOf(m).bytes
			for i := range b {
				noForm(t, fmt.Sprint(kind, " cut"), b[:i])
			}
			for _, more := range [][]byte{{0}, {1}, {0x80}, {0xff}, {0, 0}, b} {
				noForm(t, fmt.Sprint(kind, " and more"), append(slices.Clone(b), more...))
			}
		}
	}
}

// P20.2: a number written longer than it need be, wherever it stands.
func TestDecodeLongNumber(t *testing.T) {
	met := 0
	for _, kind := range kinds {
		for _, m := range []api.Message{full(kind), least(kind), greatest(kind)} {
			f := formOf(m)
			right(t, "as it is", m)
			for _, p := range f.nums {
				for zeros := 1; zeros <= 10-(p.to-p.from); zeros++ {
					long := slices.Clone(f.bytes[:p.to])
					long[p.to-1] |= 0x80
					long = append(long, bytes.Repeat([]byte{0x80}, zeros-1)...)
					long = append(long, 0)
					noForm(t, fmt.Sprint(kind, " with a long number"), append(long, f.bytes[p.to:]...))
					met++
				}
			}
		}
	}
	if met < 1000 {
		t.Error(met)
	}
}

// P20.2: a number above what may be, wherever it stands: also one that would be right were it cut to fewer bits.
func TestDecodeGreatNumber(t *testing.T) {
	for _, kind := range kinds {
		f := formOf(full(kind))
		for _, p := range f.nums {
			for _, great := range []string{"80808080808040", "80808080808080808001", "ffffffffffffffffff01", "ffffffffffffffff7f", "ffffffffffffffffff02", "ffffffffffffffffffff"} {
				b := slices.Concat(f.bytes[:p.from], raw(t, great), f.bytes[p.to:])
				noForm(t, fmt.Sprint(kind, " with a great number"), b)
			}
			// The lowest bits of the number that stood there, and one far above.
			if p.to == p.from+1 {
				low := f.bytes[p.from] | 0x80
				noForm(t, fmt.Sprint(kind, " with one far above"), slices.Concat(f.bytes[:p.from], []byte{low}, raw(t, "808080808001"), f.bytes[p.to:]))
				noForm(t, fmt.Sprint(kind, " with the highest bit"), slices.Concat(f.bytes[:p.from], []byte{low}, raw(t, "808080808080808001"), f.bytes[p.to:]))
			}
		}
	}
}

// P20.2: counts above what may be, whether so many stand there or not, and counts that do not fit.
func TestDecodeCounts(t *testing.T) {
	const e = "01 6b 0000000000000000 00"
	for _, c := range []struct{ what, b string }{
		{"no such kind", "00 01 02"},
		{"no such kind, with entries", "00 01 02 06 00"},
		{"one above all kinds", "0a 01 02 00"},
		{"a kind far above", "8401 01 02 06 01 61"},
		{"from no node", "04 08 02 06 01 61"},
		{"to no node", "04 01 08 06 01 61"},
		{"an Op below 0", "04 01 02 05 01 61"},
		{"an Op above all", "04 01 02 828080808040 01 61"},
		{"for no node", "03 01 02 06 08 01" + e},
		{"MGet of no key", "04 01 02 06 00"},
		{"MGet of a key too long", "04 01 02 06 21" + strings.Repeat("61", 33)},
		{"MPutAck of a key too long", "02 01 02 06 04 21" + strings.Repeat("61", 33) + "00"},
		{"no such bucket", "06 01 02 04 00"},
		{"a hint of nothing", "03 01 02 06 04 00"},
		{"a hint of two", "03 01 02 06 04 02" + e + e},
		{"MGot of two", "05 01 02 06 02" + e + e},
		{"MPutAck of two", "02 01 02 06 04 01 61 02" + e + e},
		{"fewer entries than are told", "01 01 02 06 02" + e},
		{"more entries than are told", "01 01 02 06 01" + e + e},
		{"MPut of too many", "01 01 02 06 8102" + strings.Repeat(e, 257)},
		{"MSync of too many", "07 01 02 03 8102" + strings.Repeat(e, 257) + "00"},
		{"MSync of too many digests", "07 01 02 03 00 8102" + strings.Repeat(e, 257)},
		{"MDigest of too many", "06 01 02 03 8102" + strings.Repeat(e, 257)},
		{"MPing of nine", "08 01 02 09" + strings.Repeat("0000", 9)},
		{"MAck of nine", "09 01 02 09" + strings.Repeat("0000", 9)},
		{"MAck of fewer than are told", "09 01 02 03 0000 0000"},
		{"a member of no state", "08 01 02 01 03 04"},
		{"a member of no state, the second", "09 01 02 02 00 00 03 00"},
		{"a member below its first incarnation", "08 01 02 01 00 01"},
		{"an entry without a key", "01 01 02 06 01 00 0000000000000000 00"},
		{"an entry whose dot is not covered", "01 01 02 06 01 01 6b 0000000000000000 01 00 02 00 00"},
		{"a digest without a key", "06 01 02 03 01 00 0000000000000000 00"},
		{"a digest whose dot is not covered", "06 01 02 03 01 01 6b 0000000000000000 01 00 02"},
		{"a digest that may not be, behind an entry", "07 01 02 03 01" + e + "01 00 0000000000000000 00"},
		{"an entry that may not be, ahead of a digest", "07 01 02 03 01 00 0000000000000000 00 01" + e},
		{"a value that is neither dead nor not", "01 01 02 06 01 01 6b 0200000000000000 01 00 02 02 00"},
	} {
		noForm(t, c.what, raw(t, c.b))
	}
	// The same bytes without the fault.
	for _, b := range []string{
		"04 01 02 06 01 61", "04 01 02 808080808040 01 61", "03 01 02 06 07 01" + e, "05 01 02 06 01" + e,
		"02 01 02 06 04 20" + strings.Repeat("61", 32) + "00", "01 01 02 06 02" + e + e, "01 01 02 06 8002" + strings.Repeat(e, 256),
		"07 01 02 03 8002" + strings.Repeat(e, 256) + "8002" + strings.Repeat(e, 256), "06 01 02 03 8002" + strings.Repeat(e, 256),
		"08 01 02 08" + strings.Repeat("0000", 8), "09 07 00 08" + strings.Repeat("0000", 8), "07 01 02 03 01" + e + "01" + e,
	} {
		oneForm(t, raw(t, b))
		if _, err := Decode(raw(t, b)); err != api.OK {
			t.Errorf("%s: %d", b, err)
		}
	}
}

// oneForm fails the test, if b is taken and is not what Encode writes of the message; it tells whether it is taken.
func oneForm(t *testing.T, b []byte) bool {
	t.Helper()
	m, err := Decode(b)
	if err != api.OK {
		if err != api.ErrForm || !isNothing(m) {
			t.Fatalf("%x: %s, %d", b, text(m), err)
		}
		return false
	}
	if text(plainByWords(m)) != text(m) || !bytes.Equal(formOf(m).bytes, b) {
		t.Fatalf("%x is %s", b, text(m))
	}
	right(t, fmt.Sprintf("%x", b), m)
	return true
}

// P20.3: each byte of a message changed to each other: what is taken is of one form.
func TestOneFormOfChanged(t *testing.T) {
	for _, kind := range kinds {
		taken := 0
		for _, m := range []api.Message{full(kind), least(kind)} {
			b := formOf(m).bytes
			for i := range b {
				was := b[i]
				for c := range 256 {
					b[i] = byte(c)
					if oneForm(t, b) {
						taken++
					}
				}
				b[i] = was
			}
		}
		if taken < 50 {
			t.Errorf("%d: only %d were taken", kind, taken)
		}
	}
}

// P20.3: any bytes of few lengths, and messages in which several bytes are spoilt.
func TestOneFormOfAny(t *testing.T) {
	for kind := range 11 {
		for a := range 256 {
			for b := range 256 {
				oneForm(t, []byte{byte(kind), 1, 2, byte(a), byte(b)})
				oneForm(t, []byte{byte(kind), byte(a), 2, 0, byte(b)})
			}
		}
	}
	r := rand.New(rand.NewSource(3))
	taken := 0
	for range 30000 {
		b := formOf(some(r)).bytes
		for range r.Intn(4) {
			switch at := r.Intn(len(b)); r.Intn(3) {
			case 0:
				b[at] = byte(r.Intn(256) >> r.Intn(8))
			case 1:
				b = slices.Insert(b, at, byte(r.Intn(256)>>r.Intn(8)))
			case 2:
				if len(b) > 1 {
					b = slices.Delete(b, at, at+1)
				}
			}
		}
		if oneForm(t, b) {
			taken++
		}
	}
	if taken < 3000 {
		t.Errorf("only %d were taken", taken)
	}
}

// scribble changes all that m's lists hold, and what has room behind them.
func scribble(m api.Message) {
	for i := range m.Entries {
		values := m.Entries[i].Sibs.Values
		for k := range values {
			for at := range values[k].Data[:cap(values[k].Data)] {
				values[k].Data[:cap(values[k].Data)][at] = '?'
			}
			values[k] = val(5, 55, "?")
		}
		_ = append(values, val(6, 66, "?"))
		m.Entries[i] = entry("?", api.Vector{9})
	}
	_ = append(m.Entries, entry("?", api.Vector{8}))
	for i := range m.Digests {
		dots := m.Digests[i].Dots
		for k := range dots {
			dots[k] = api.Dot{Node: 5, N: 55}
		}
		_ = append(dots, api.Dot{Node: 6, N: 66})
		m.Digests[i] = told("?", api.Vector{9})
	}
	_ = append(m.Digests, told("?", api.Vector{8}))
	for i := range m.Members {
		m.Members[i] = api.Member{State: 77, Inc: 77}
	}
	_ = append(m.Members, api.Member{State: 78})
}

// crowded is a message of lists that share memory, with room behind each that is somebody's.
func crowded(kind int) api.Message {
	data := []byte("abcdef")
	values := []api.Value{{Dot: api.Dot{N: 1}, Data: data[:3]}, {Dot: api.Dot{N: 2}, Data: data[:3]}, val(0, 3, "v"), val(0, 4, "w")}
	dots := []api.Dot{{N: 1}, {N: 2}, {N: 3}}
	e := entry("k", api.Vector{4}, values[:3]...)
	d := told("k", api.Vector{3}, dots[:2]...)
	return with(full(kind), func(m *api.Message) {
		m.Entries = []api.Entry{e, e, e}[:2]
		if most := mostOf(kind, "Entries"); most < 2 {
			m.Entries = m.Entries[:most]
		}
		m.Digests = []api.Digest{d, d, d}[:2]
		m.Members = []api.Member{{}, {State: 1}, {State: 2}}[:2]
	})
}

// crowdText tells also what stands behind the lists of a message.
func crowdText(m api.Message) string {
	m.Entries, m.Digests, m.Members = m.Entries[:cap(m.Entries)], m.Digests[:cap(m.Digests)], m.Members[:cap(m.Members)]
	m.Entries, m.Digests = slices.Clone(m.Entries), slices.Clone(m.Digests)
	for i := range m.Entries {
		s := &m.Entries[i].Sibs
		s.Values = slices.Clone(s.Values[:cap(s.Values)])
		for k := range s.Values {
			s.Values[k].Data = s.Values[k].Data[:cap(s.Values[k].Data)]
		}
	}
	for i := range m.Digests {
		m.Digests[i].Dots = m.Digests[i].Dots[:cap(m.Digests[i].Dots)]
	}
	return text(m)
}

// R2: what is handed in is neither changed nor kept, and what stands behind a list is not touched.
func TestHandedIn(t *testing.T) {
	for _, kind := range append(slices.Clone(kinds), noKinds...) {
		m := crowded(kind)
		before := crowdText(m)
		May(m)
		Same(m, crowded(kind))
		b, err := Encode(m)
		plain := Plain(m)
		if crowdText(m) != before {
			t.Fatalf("%d was changed: %s", kind, crowdText(m))
		}
		want, bytesBefore := text(plainByWords(crowded(kind))), slices.Clone(b)
		scribble(m)
		if text(plain) != want || !bytes.Equal(b, bytesBefore) {
			t.Errorf("%d: an answer shares memory with what was handed in", kind)
		}
		if err != api.OK && has[kind] != "" {
			t.Errorf("%d: %d", kind, err)
		}
	}
}

// R2: what Plain tells is the caller's own, and no two lists of it share memory.
func TestPlainMemory(t *testing.T) {
	for _, kind := range kinds {
		m := crowded(kind)
		before := crowdText(m)
		scribble(Plain(m))
		if crowdText(m) != before {
			t.Errorf("%d: scribbling over Plain changed the message: %s", kind, crowdText(m))
		}
		apart(t, fmt.Sprint("Plain of ", kind), Plain(m))
	}
}

// apart fails the test, if two lists of m share memory: each is scribbled over, with the room behind it, and no other changes.
func apart(t *testing.T, what string, m api.Message) {
	t.Helper()
	for i := range m.Entries {
		for k := range m.Entries[i].Sibs.Values {
			s := m.Entries[i].Sibs
			was := s.Values[k].Data
			s.Values[k].Data = nil
			before := text(m)
			for at := range was[:cap(was)] {
				was[:cap(was)][at]++
			}
			if text(m) != before {
				t.Fatalf("%s: data of the entry %d is shared", what, i)
			}
			s.Values[k].Data = was
		}
		was := m.Entries[i].Sibs.Values
		m.Entries[i].Sibs.Values = nil
		before := text(m)
		for k := range was[:cap(was)] {
			was[:cap(was)][k].Dot.N++
		}
		if text(m) != before {
			t.Fatalf("%s: values of the entry %d are shared", what, i)
		}
		m.Entries[i].Sibs.Values = was
	}
	for i := range m.Digests {
		was := m.Digests[i].Dots
		m.Digests[i].Dots = nil
		before := text(m)
		for k := range was[:cap(was)] {
			was[:cap(was)][k].N++
		}
		if text(m) != before {
			t.Fatalf("%s: dots of the digest %d are shared", what, i)
		}
		m.Digests[i].Dots = was
	}
}

// R2: bytes that are told, and what Decode tells, are the caller's own.
func TestBytesMemory(t *testing.T) {
	for _, kind := range kinds {
		m := crowded(kind)
		want := formOf(m).bytes
		room := append(slices.Clone(want), 1, 2, 3)
		b := room[:len(want)]
		x, err := Decode(b)
		if err != api.OK || !bytes.Equal(room, append(slices.Clone(want), 1, 2, 3)) {
			t.Fatalf("%d: %d, %x", kind, err, room)
		}
		clear(room)
		if text(x) != text(plainByWords(m)) {
			t.Errorf("%d: what was read shares memory with the bytes", kind)
		}
		apart(t, fmt.Sprint("Decode of ", kind), x)

		first, _ := Encode(m)
		second, _ := Encode(m)
		for i := range first[:cap(first)] {
			first[:cap(first)][i] ^= 0xff
		}
		if third, _ := Encode(m); !bytes.Equal(second, want) || !bytes.Equal(third, want) {
			t.Errorf("%d: bytes are shared", kind)
		}
		one, _ := Decode(want)
		two, _ := Decode(want)
		scribble(one)
		if text(two) != text(plainByWords(m)) {
			t.Errorf("%d: two answers share memory", kind)
		}
	}
}

// R3: lists far beyond what may be, and numbers at all ends, are taken to an end.
func TestFarBeyond(t *testing.T) {
	for _, kind := range append(slices.Clone(kinds), noKinds...) {
		m := api.Message{
			Kind: kind, From: math.MinInt, To: math.MaxInt, Op: math.MinInt64, For: math.MinInt, Key: strings.Repeat("k", 1<<20), Bucket: math.MaxInt,
			Entries: make([]api.Entry, 10000), Digests: make([]api.Digest, 10000), Members: make([]api.Member, 10000),
		}
		if b, err := Encode(m); May(m) || err != api.ErrArg || b != nil {
			t.Errorf("%d: %d, %d bytes", kind, err, len(b))
		}
		if p := Plain(m); !Same(p, m) || text(p) != text(plainByWords(m)) {
			t.Errorf("%d: Plain", kind)
		}
	}
}
