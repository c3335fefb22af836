package queue

import (
	"fmt"
	"math"
	"math/rand"
	"slices"
	"strconv"
	"strings"
	"sync"
	"testing"

	"tattler/api"
)

// rooms are below 0, both ends and what is beside them, above the end.
var rooms = []int{math.MinInt, -1000, -2, -1, 0, 1, 2, 3, 999, 1000, 1001, 2000, 1<<32 + 3, math.MaxInt}

// urgencies are below 0, all that there are, above the end.
var urgencies = []int{math.MinInt, -1 << 40, -4, -1, 0, 1, 2, 3, 4, 5, 1000, 1<<62 + 1, math.MaxInt}

// room bounds what New is given, by the chapter's words.
func room(most int) int {
	switch {
	case most < 0:
		return 0
	case most > 1000:
		return 1000
	}
	return most
}

// heavy is the weight of an urgency, by the chapter's words.
func heavy(urgency int) int {
	switch {
	case urgency < 0:
		return 0
	case urgency > 3:
		return 12
	}
	return 4 * urgency
}

// numbered is a message that its Op tells from others.
func numbered(n int) api.Message {
	return api.Message{Kind: api.MGet, From: 1, To: 2, Op: int64(n), Key: "k"}
}

// is fails the test, unless so many wait and were refused; asked twice, as asking changes nothing.
func is(t *testing.T, what string, q *Queue, waits int, refused int64) {
	t.Helper()
	for range 2 {
		if q.Len() != waits || q.Refused() != refused {
			t.Fatalf("%s: %d wait, %d refused; want %d, %d", what, q.Len(), q.Refused(), waits, refused)
		}
	}
}

// put puts a message for which there is room.
func put(t *testing.T, q *Queue, m api.Message, urgency int) {
	t.Helper()
	waits, refused := q.Len(), q.Refused()
	if err := q.Put(m, urgency); err != api.OK {
		t.Fatalf("Put(%d, %d) with %d that wait: %v", m.Op, urgency, waits, err)
	}
	is(t, "behind Put", q, waits+1, refused)
}

// full fails the test, unless a Put finds no room, and is counted.
func full(t *testing.T, q *Queue) {
	t.Helper()
	waits, refused := q.Len(), q.Refused()
	if err := q.Put(numbered(-1), 3); err != api.ErrFull {
		t.Fatalf("Put with %d that wait: %v", waits, err)
	}
	is(t, "behind a Put without room", q, waits, refused+1)
}

// take fails the test, unless the messages that are taken have these numbers.
func take(t *testing.T, q *Queue, want ...int) {
	t.Helper()
	for i, n := range want {
		waits, refused := q.Len(), q.Refused()
		m, ok := q.Take()
		if !ok || text(m) != text(numbered(n)) {
			t.Fatalf("Take %d of %v: %s, %v", i+1, want, text(m), ok)
		}
		is(t, "behind Take", q, waits-1, refused)
	}
}

// empty fails the test, unless there is nothing to take.
func empty(t *testing.T, q *Queue) {
	t.Helper()
	refused := q.Refused()
	is(t, "empty", q, 0, refused)
	for range 2 {
		if m, ok := q.Take(); ok || !isZero(m) {
			t.Fatalf("Take of an empty queue: %s, %v", text(m), ok)
		}
		is(t, "behind Take of an empty queue", q, 0, refused)
	}
}

// ticks has the queue tick so often.
func ticks(t *testing.T, q *Queue, n int) {
	t.Helper()
	waits, refused := q.Len(), q.Refused()
	for range n {
		q.Tick()
	}
	is(t, "behind Ticks", q, waits, refused)
}

// isZero tells whether m is a zero message.
func isZero(m api.Message) bool {
	return text(m) == text(api.Message{}) && len(m.Entries)+len(m.Digests)+len(m.Members) == 0
}

// text tells a message as it stands, by a way of the test's own: nil and empty lists are one.
func text(m api.Message) string {
	var out strings.Builder
	fmt.Fprintf(&out, "%d %d %d %d %d %q %d\n", m.Kind, m.From, m.To, m.Op, m.For, m.Key, m.Bucket)
	for _, e := range m.Entries {
		fmt.Fprintf(&out, "entry %q %v", e.Key, e.Sibs.Seen)
		for _, v := range e.Sibs.Values {
			fmt.Fprintf(&out, " (%d %d) %x %v", v.Dot.Node, v.Dot.N, v.Data, v.Dead)
		}
		out.WriteString("\n")
	}
	for _, d := range m.Digests {
		fmt.Fprintf(&out, "digest %q %v", d.Key, d.Seen)
		for _, dot := range d.Dots {
			fmt.Fprintf(&out, " (%d %d)", dot.Node, dot.N)
		}
		out.WriteString("\n")
	}
	for _, x := range m.Members {
		fmt.Fprintf(&out, "member %d %d\n", x.State, x.Inc)
	}
	return out.String()
}

// rich is a message with all fields and lists.
func rich() api.Message {
	return api.Message{
		Kind: api.MSync, From: 1, To: 2, Op: 3, For: 4, Key: "key", Bucket: 2,
		Entries: []api.Entry{
			{Key: "a", Sibs: api.Sibs{Seen: api.Vector{2, 1}, Values: []api.Value{
				{Dot: api.Dot{Node: 0, N: 2}, Data: []byte("xyz")},
				{Dot: api.Dot{Node: 1, N: 1}, Data: []byte("pq")},
			}}},
			{Key: "b", Sibs: api.Sibs{Seen: api.Vector{0, 0, 5}, Values: []api.Value{{Dot: api.Dot{Node: 2, N: 5}, Dead: true}}}},
			{Key: "c"},
		},
		Digests: []api.Digest{
			{Key: "a", Seen: api.Vector{2, 1}, Dots: []api.Dot{{Node: 0, N: 2}, {Node: 1, N: 1}}},
			{Key: "d", Seen: api.Vector{7}},
		},
		Members: []api.Member{{State: api.Suspect, Inc: 3}, {State: api.Dead, Inc: 9}, {}},
	}
}

// strange are messages that may not be, or are all lists: a queue takes what it is given.
func strange() []api.Message {
	long := api.Message{Kind: 99, From: -1, To: math.MaxInt, Op: math.MinInt64, For: -7, Key: string(make([]byte, 300)), Bucket: math.MinInt}
	for n := range 30 {
		value := api.Value{Dot: api.Dot{Node: -n, N: math.MaxInt64}, Data: make([]byte, 20*n), Dead: true}
		long.Entries = append(long.Entries, api.Entry{Sibs: api.Sibs{Seen: api.Vector{-1}, Values: []api.Value{value, value}}})
		long.Digests = append(long.Digests, api.Digest{Key: "z", Dots: make([]api.Dot, n)})
		long.Members = append(long.Members, api.Member{State: -n, Inc: -1})
	}
	return []api.Message{
		{},
		{Kind: api.MGet},
		rich(),
		long,
		{Entries: []api.Entry{}, Digests: []api.Digest{}, Members: []api.Member{}},
		{Entries: []api.Entry{{Sibs: api.Sibs{Values: []api.Value{}}}, {Sibs: api.Sibs{Values: []api.Value{{Data: []byte{}}}}}}, Digests: []api.Digest{{Dots: []api.Dot{}}}},
	}
}

// whole is a row up to its capacity: all that its owner may write.
func whole[T any](row []T) []T {
	return row[:cap(row)]
}

// spoil writes over all of a message that its owner may write over.
func spoil(m *api.Message) {
	for _, e := range whole(m.Entries) {
		for _, v := range whole(e.Sibs.Values) {
			data := whole(v.Data)
			for i := range data {
				data[i] = '?'
			}
		}
		values := whole(e.Sibs.Values)
		for i := range values {
			values[i] = api.Value{Dot: api.Dot{Node: -1, N: -1}, Data: []byte("spoilt")}
		}
	}
	for _, d := range whole(m.Digests) {
		dots := whole(d.Dots)
		for i := range dots {
			dots[i] = api.Dot{Node: -1, N: -1}
		}
	}
	entries, digests, members := whole(m.Entries), whole(m.Digests), whole(m.Members)
	for i := range entries {
		entries[i] = api.Entry{Key: "spoilt"}
	}
	for i := range digests {
		digests[i] = api.Digest{Key: "spoilt"}
	}
	for i := range members {
		members[i] = api.Member{State: -1, Inc: -1}
	}
	*m = api.Message{Kind: -1, From: -1, To: -1, Op: -1, For: -1, Key: "spoilt", Bucket: -1}
}

// P18.1: New of each room: empty, with room for just so many; and for one more once one is taken.
func TestNew(t *testing.T) {
	for _, most := range rooms {
		q := New(most)
		empty(t, q)
		is(t, "New", q, 0, 0)
		for i := range room(most) {
			put(t, q, numbered(i), 0)
		}
		is(t, fmt.Sprintf("New(%d), filled", most), q, room(most), 0)
		for range 3 {
			full(t, q)
		}
		if room(most) > 0 {
			take(t, q, 0)
			put(t, q, numbered(5000), 3)
			full(t, q)
			take(t, q, 5000)
		}
		for i := 1; i < room(most); i++ {
			take(t, q, i)
		}
		empty(t, q)
	}
}

// P18.1: a queue that was filled and emptied has all its room again, however often.
func TestRoomAgain(t *testing.T) {
	for _, most := range []int{1, 2, 7, 1000} {
		q := New(most)
		for round := range 5 {
			for i := range most {
				put(t, q, numbered(round*most+i), 1)
			}
			full(t, q)
			for i := range most {
				take(t, q, round*most+i)
			}
			empty(t, q)
		}
		is(t, "emptied", q, 0, 5)
	}
}

// P18.1: what finds no room is lost, whatever its urgency, and leaves the rest as it was.
func TestFull(t *testing.T) {
	for _, urgency := range urgencies {
		q := New(3)
		put(t, q, numbered(1), 0)
		put(t, q, numbered(2), 1)
		put(t, q, numbered(3), 0)
		for i := range 10 {
			if err := q.Put(numbered(9), urgency); err != api.ErrFull {
				t.Fatalf("urgency %d: %v", urgency, err)
			}
			is(t, "full", q, 3, int64(i+1))
		}
		take(t, q, 2, 1, 3)
		empty(t, q)
		is(t, "emptied", q, 0, 10)
	}
}

// P18.1: of two the heavier is taken first, of one weight the one that was put first: each urgency beside each, with Ticks between.
func TestWeights(t *testing.T) {
	for _, first := range urgencies {
		for _, second := range urgencies {
			for between := range 16 {
				q := New(2)
				put(t, q, numbered(1), first)
				ticks(t, q, between)
				put(t, q, numbered(2), second)
				ticks(t, q, between%3)
				if heavy(second) > heavy(first)+between {
					take(t, q, 2, 1)
				} else {
					take(t, q, 1, 2)
				}
				empty(t, q)
			}
		}
	}
}

// P18.1: of several of one weight the one that was put first, also if some were taken between.
func TestOneWeight(t *testing.T) {
	for _, urgency := range urgencies {
		q := New(100)
		for i := range 60 {
			put(t, q, numbered(i), urgency)
		}
		for i := range 30 {
			take(t, q, i)
		}
		for i := range 40 {
			put(t, q, numbered(60+i), urgency)
		}
		for i := 30; i < 100; i++ {
			take(t, q, i)
		}
		empty(t, q)
	}
}

// P18.1: several of several weights.
func TestSeveralWeights(t *testing.T) {
	q := New(10)
	for i, urgency := range []int{0, 2, 1, 3, 2, 0, 1, 3, -5, 9} {
		put(t, q, numbered(i), urgency)
	}
	take(t, q, 3, 7, 9, 1, 4, 2, 6, 0, 5, 8)
	empty(t, q)
}

// P18.1: two whose weights Ticks made the same: the one that was put first, though it is the less urgent.
func TestSameByTicks(t *testing.T) {
	for less := range 4 {
		for more := less; more < 4; more++ {
			for _, near := range []int{-1, 0, 1} {
				between := 4*(more-less) + near
				if between < 0 {
					continue
				}
				q := New(5)
				put(t, q, numbered(1), less)
				put(t, q, numbered(2), less)
				ticks(t, q, between)
				put(t, q, numbered(3), more)
				put(t, q, numbered(4), more)
				put(t, q, numbered(5), less)
				switch {
				case near < 0:
					take(t, q, 3, 4, 1, 2, 5)
				default:
					take(t, q, 1, 2, 3, 4, 5)
				}
				empty(t, q)
			}
		}
	}
}

// P18.1: Ticks of an empty queue weigh nothing for what is put later.
func TestTicksOfEmpty(t *testing.T) {
	q := New(3)
	ticks(t, q, 100000)
	empty(t, q)
	put(t, q, numbered(1), 0)
	put(t, q, numbered(2), 1)
	put(t, q, numbered(3), 0)
	take(t, q, 2, 1, 3)
	empty(t, q)
}

// P18.1: Ticks of a full queue leave it full, and the order of what waits as it was.
func TestTicksOfFull(t *testing.T) {
	for _, n := range []int{1, 12, 1000, 1000000} {
		q := New(1000)
		for i := range 1000 {
			put(t, q, numbered(i), i%4)
		}
		ticks(t, q, n)
		full(t, q)
		for urgency := 3; urgency >= 0; urgency-- {
			for i := urgency; i < 1000; i += 4 {
				take(t, q, i)
			}
		}
		empty(t, q)
	}
}

// P18.1: many Ticks between: what is put first goes first, and later ones are held against one another as ever.
func TestManyTicks(t *testing.T) {
	q := New(10)
	for i := range 5 {
		put(t, q, numbered(i), i%2)
		ticks(t, q, 300000)
	}
	put(t, q, numbered(5), 0)
	put(t, q, numbered(6), 1)
	take(t, q, 0, 1, 2, 3, 4, 6, 5)
	empty(t, q)
}

// P18.2: one that has waited 11, 12 and 13 Ticks beside one of each urgency that is put later.
func TestWaited(t *testing.T) {
	for _, urgency := range urgencies {
		for _, waited := range []int{11, 12, 13} {
			q := New(2)
			put(t, q, numbered(1), 0)
			ticks(t, q, waited)
			put(t, q, numbered(2), urgency)
			if waited == 11 && urgency >= 3 {
				take(t, q, 2, 1)
			} else {
				take(t, q, 1, 2)
			}
		}
	}
}

// P18.2: where p of the greatest urgency are put and taken a Tick, the least urgent of a queue is taken behind those that waited and 12 p more.
func TestBehindSoMany(t *testing.T) {
	for _, waits := range []int{0, 1, 5, 100} {
		for _, p := range []int{1, 2, 7} {
			q := New(waits + 1 + p)
			for range waits {
				put(t, q, numbered(0), 3)
			}
			put(t, q, numbered(1), -1)
			takes, done := 0, false
			for !done && takes <= waits+12*p {
				for range p {
					put(t, q, numbered(0), 3)
				}
				for range p {
					m, _ := q.Take()
					takes++
					done = done || m.Op == 1
				}
				q.Tick()
			}
			if !done {
				t.Errorf("%d wait, %d a Tick: not taken in %d Takes", waits, p, takes)
			}
		}
	}
}

// P18.1: the chapter's example.
func TestExample(t *testing.T) {
	q := New(2)
	put(t, q, numbered(1), 0)
	ticks(t, q, 5)
	put(t, q, numbered(2), 1)
	take(t, q, 1, 2)
	empty(t, q)
}

// P18.1: what is taken is as it was put, also what may not be a message.
func TestAsItWasPut(t *testing.T) {
	row := strange()
	q := New(len(row))
	for _, m := range row {
		put(t, q, m, 1)
	}
	ticks(t, q, 3)
	for i, want := range strange() {
		got, ok := q.Take()
		if !ok || text(got) != text(want) {
			t.Errorf("message %d: %s, %v; want %s", i, text(got), ok, text(want))
		}
	}
	empty(t, q)
}

// R2: what is handed in is not changed, and what the caller does to it later changes nothing that waits.
func TestPutKeepsNothing(t *testing.T) {
	for i, m := range strange() {
		q := New(2)
		want := text(m)
		put(t, q, m, 0)
		put(t, q, m, 0)
		full(t, q)
		if text(m) != want {
			t.Errorf("message %d: Put changed it", i)
		}
		spoil(&m)
		for range 2 {
			if got, ok := q.Take(); !ok || text(got) != want {
				t.Errorf("message %d: %s, %v; want %s", i, text(got), ok, want)
			}
		}
	}
}

// R2: what is taken is the caller's own: what waits of the same message stays.
func TestTakeIsNew(t *testing.T) {
	for i, m := range strange() {
		q := New(3)
		want := text(m)
		for range 3 {
			put(t, q, m, 0)
		}
		for range 3 {
			got, ok := q.Take()
			if !ok || text(got) != want {
				t.Errorf("message %d: %s, %v; want %s", i, text(got), ok, want)
			}
			spoil(&got)
			if text(m) != want {
				t.Errorf("message %d: what was taken shares memory with what was put", i)
			}
		}
		empty(t, q)
	}
}

// R2: no two lists of what is taken share memory, though those that were put did.
func TestListsApart(t *testing.T) {
	data := []byte("xyz")
	values := []api.Value{{Dot: api.Dot{N: 1}, Data: data}, {Dot: api.Dot{N: 2}, Data: data[:2]}}
	dots := []api.Dot{{N: 1}, {N: 2}}
	q := New(1)
	put(t, q, api.Message{
		Entries: []api.Entry{{Key: "a", Sibs: api.Sibs{Values: values}}, {Key: "b", Sibs: api.Sibs{Values: values}}},
		Digests: []api.Digest{{Key: "a", Dots: dots}, {Key: "b", Dots: dots[:1]}},
	}, 0)
	m, _ := q.Take()
	one, other := m.Entries[0].Sibs.Values, m.Entries[1].Sibs.Values
	copy(whole(one[0].Data), "???")
	if string(one[1].Data) != "xy" || string(other[0].Data) != "xyz" || string(other[1].Data) != "xy" {
		t.Error("the data of two values share memory", m)
	}
	whole(one)[1] = api.Value{}
	if other[1].Dot.N != 2 {
		t.Error("the values of two entries share memory", m)
	}
	whole(m.Digests[1].Dots)[0] = api.Dot{N: 99}
	if m.Digests[0].Dots[0].N != 1 {
		t.Error("the dots of two digests share memory", m)
	}
}

// R2: what lies behind a list's length is neither read nor written.
func TestBehindLength(t *testing.T) {
	all := rich()
	m := all
	m.Entries, m.Digests, m.Members = all.Entries[:1], all.Digests[:1], all.Members[:1]
	m.Entries[0].Sibs.Values = m.Entries[0].Sibs.Values[:1]
	m.Entries[0].Sibs.Values[0].Data = m.Entries[0].Sibs.Values[0].Data[:1]
	m.Digests[0].Dots = m.Digests[0].Dots[:1]
	want := text(m)
	q := New(1)
	put(t, q, m, 0)
	got, _ := q.Take()
	if text(got) != want {
		t.Errorf("%s; want %s", text(got), want)
	}
	spoil(&got)
	all.Entries[0].Sibs.Values = whole(all.Entries[0].Sibs.Values)
	all.Entries[0].Sibs.Values[0].Data = all.Entries[0].Sibs.Values[0].Data[:3]
	all.Digests[0].Dots = whole(all.Digests[0].Dots)
	if text(all) != text(rich()) {
		t.Errorf("changed behind the length: %s", text(all))
	}
}

// R3: a nil queue tells ErrArg and zero values, and nothing changes that.
func TestNil(t *testing.T) {
	var q *Queue
	for range 3 {
		empty(t, q)
		q.Tick()
		for _, urgency := range urgencies {
			if err := q.Put(rich(), urgency); err != api.ErrArg {
				t.Errorf("Put: %v", err)
			}
		}
		is(t, "nil", q, 0, 0)
	}
}

// R3: a queue that New did not make has no room.
func TestZero(t *testing.T) {
	var q Queue
	for range 3 {
		empty(t, &q)
		q.Tick()
		if err := q.Put(rich(), 3); err != api.ErrFull {
			t.Errorf("Put: %v", err)
		}
		if q.Len() != 0 {
			t.Errorf("%d wait", q.Len())
		}
	}
}

// R2: two queues keep to themselves.
func TestTwoQueues(t *testing.T) {
	a, b := New(2), New(3)
	put(t, a, numbered(1), 0)
	ticks(t, a, 5)
	is(t, "b", b, 0, 0)
	put(t, b, numbered(11), 0)
	put(t, a, numbered(2), 1)
	put(t, b, numbered(12), 1)
	full(t, a)
	is(t, "b", b, 2, 0)
	take(t, b, 12)
	take(t, a, 1)
	ticks(t, b, 20)
	put(t, a, numbered(3), 3)
	put(t, b, numbered(13), 3)
	take(t, a, 3, 2)
	empty(t, a)
	take(t, b, 11, 13)
	empty(t, b)
	is(t, "a", a, 0, 1)
	is(t, "b", b, 0, 0)
}

// Kinds of calls of a row: Puts of urgencies 0 to 3 are those below takes.
const (
	takes = 4
	tick  = 5
	kinds = 6
)

// item is what a model holds of a message: its number, its weight.
type item struct{ number, weight int }

// model is a queue by the chapter's words: what waits, in the order in which it was put.
type model struct {
	row     []item
	most    int
	refused int64
}

// put tells whether there is room.
func (m *model) put(number, urgency int) bool {
	if len(m.row) >= m.most {
		m.refused++
		return false
	}
	m.row = append(m.row, item{number, heavy(urgency)})
	return true
}

// tick adds one to all weights.
func (m *model) tick() {
	for i := range m.row {
		m.row[i].weight++
	}
}

// take tells the number that is taken; 0: none.
func (m *model) take() int {
	best := -1
	for i, x := range m.row {
		if best < 0 || x.weight > m.row[best].weight {
			best = i
		}
	}
	if best < 0 {
		return 0
	}
	number := m.row[best].number
	m.row = slices.Delete(m.row, best, best+1)
	return number
}

// run has a row of calls, holds each against the model, then takes all that is left: each that was put is taken once.
func run(t *testing.T, most int, calls []int) {
	t.Helper()
	q, m := New(most), &model{most: room(most)}
	defer func() {
		if t.Failed() {
			t.Logf("New(%d), calls %v", most, calls)
		}
	}()
	taken := map[int]bool{}
	step := func(i, call int) {
		was := "call " + strconv.Itoa(i)
		switch call {
		case takes:
			got, ok := q.Take()
			want := m.take()
			if ok != (want > 0) || got.Op != int64(want) || ok && taken[want] {
				t.Fatalf("%s: Take: %d, %v; want %d", was, got.Op, ok, want)
			}
			taken[want] = true
		case tick:
			q.Tick()
			m.tick()
		default:
			err := q.Put(numbered(i+1), call)
			if ok := m.put(i+1, call); ok != (err == api.OK) || !ok && err != api.ErrFull {
				t.Fatalf("%s: Put: %v; want room: %v", was, err, ok)
			}
		}
		is(t, was, q, len(m.row), m.refused)
	}
	for i, call := range calls {
		step(i, call)
	}
	for i := 0; len(m.row) > 0; i++ {
		step(len(calls)+i, takes)
	}
	empty(t, q)
}

// P18.1: every row of five calls, each Tick also as four of them, with little room.
func TestRows(t *testing.T) {
	const long = 5
	rows := 1
	for range long {
		rows *= kinds
	}
	for row := range rows {
		var calls, slow []int
		left := row
		for range long {
			call := left % kinds
			left /= kinds
			calls = append(calls, call)
			slow = append(slow, call)
			if call == tick {
				slow = append(slow, tick, tick, tick)
			}
		}
		for _, most := range []int{0, 1, 2, 5} {
			run(t, most, calls)
			run(t, most, slow)
		}
	}
}

// P18.1, P18.2: long runs, with much room and little, with many Ticks and few, with any urgency.
func TestRuns(t *testing.T) {
	r := rand.New(rand.NewSource(18))
	for range 300 {
		most, puts, often := r.Intn(80)-2, 1+r.Intn(9), 1+r.Intn(9)
		calls := make([]int, 500)
		for i := range calls {
			switch n := r.Intn(puts + often + 5); {
			case n < puts:
				calls[i] = r.Intn(4)
				if r.Intn(10) == 0 {
					calls[i] = []int{math.MinInt, -1, 1 << 40, math.MaxInt}[r.Intn(4)]
				}
			case n < puts+often:
				calls[i] = tick
			default:
				calls[i] = takes
			}
		}
		run(t, most, calls)
	}
}

// P18.2: nothing that is put 12 Ticks later or more is taken ahead of what still waits.
func TestNoneWaitsForLater(t *testing.T) {
	r := rand.New(rand.NewSource(12))
	for range 100 {
		q := New(1000)
		var born []int // by number: at which Tick it was put
		waits := map[int]bool{}
		for now := range 60 {
			for range r.Intn(6) {
				put(t, q, numbered(len(born)), r.Intn(4))
				waits[len(born)] = true
				born = append(born, now)
			}
			for range r.Intn(4) {
				m, ok := q.Take()
				if !ok {
					break
				}
				n := int(m.Op)
				if !waits[n] {
					t.Fatalf("%d is taken, and does not wait", n)
				}
				delete(waits, n)
				for old := range waits {
					if born[n]-born[old] >= 12 {
						t.Fatalf("%d of Tick %d is taken ahead of %d of Tick %d", n, born[n], old, born[old])
					}
				}
			}
			q.Tick()
		}
	}
}

// P18.1: many may ask how many wait and were refused while one puts and takes.
func TestManyRead(t *testing.T) {
	const most, times, readers = 50, 20000, 8
	q := New(most)
	stop := make(chan struct{})
	var all, here sync.WaitGroup
	here.Add(readers)
	for range readers {
		all.Go(func() {
			here.Done()
			last := int64(0)
			for {
				select {
				case <-stop:
					return
				default:
				}
				waits, refused := q.Len(), q.Refused()
				if waits < 0 || waits > most || refused < last {
					t.Errorf("%d wait, %d refused, %d ahead of it", waits, refused, last)
					return
				}
				last = refused
			}
		})
	}
	here.Wait()
	refused := int64(0)
	for i := range times {
		if q.Put(numbered(i), i%5) != api.OK {
			refused++
		}
		if i%3 == 0 {
			q.Tick()
			q.Take()
		}
	}
	close(stop)
	all.Wait()
	is(t, "many", q, most, refused)
}
