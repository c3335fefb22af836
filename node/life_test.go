package node

import (
	"fmt"
	"math"
	"slices"
	"strings"
	"testing"

	"tattler/api"
	"tattler/disk"
	"tattler/keys"
	"tattler/ring"
)

// crash opens the node self over d anew, behind a crash that keeps so much of what was not sure.
func crash(t *testing.T, c api.Config, self int, d *disk.Disk, pick int) *Node {
	t.Helper()
	d.Crash(pick)
	return openOver(t, c, self, d)
}

// P23.1, P23.7: behind a crash and Open all is there that was answered; what does not last begins anew.
func TestCrash(t *testing.T) {
	for _, pick := range []int{0, 1, 7, math.MaxInt, -1} {
		c := config(4, 2)
		c.Burst, c.Rate = 1, 1
		order := ring.New(4).Order("k")
		self, other := order[0], order[1]
		d := disk.New(c.Disk)
		n := openOver(t, c, self, d)
		n.Put("k", api.Vector{}, []byte("x"), false)
		n.Get("k")
		receive(n, other, self, api.Message{Kind: api.MPut, Op: 1, Entries: entries(one(other, "y"), "l")})
		receive(n, other, self, api.Message{Kind: api.MHint, For: order[2], Entries: entries(one(other, "z"), "m")})
		receive(n, other, self, api.Message{Kind: api.MHint, For: order[3], Entries: entries(one(other, "z"), "m")})
		receive(n, order[3], self, api.Message{Kind: api.MPutAck, For: order[3], Key: "m", Entries: entries(one(other, "z"), "m")})
		hold(n, self, other, order[2], api.Member{State: api.Dead, Inc: 3})
		hold(n, self, other, self, api.Member{State: api.Dead, Inc: 3})
		for range 3 {
			n.Tick()
		}
		if n.Waiting() == 0 || n.Sent() == 0 || n.Ticks() != 3 {
			t.Error(n.Waiting(), n.Sent(), n.Ticks())
		}
		was := has(n)
		n = crash(t, c, self, d, pick)
		is(t, "has", has(n), was)
		is(t, "members", members(n), "A0; A0; A0; A0")
		is(t, "counts", fmt.Sprint(n.Waiting(), n.Sent(), n.Ticks()), "0 0 0")
		is(t, "told", sent(n)+answers(n), "")
		// Numbers begin anew, but not those of events.
		op, err := n.Put("k", api.Vector{}, []byte("w"), false)
		s, _ := n.Store().Get("k")
		var seen api.Vector
		seen[self] = 2
		if op != 1 || err != api.OK {
			t.Error(op, err)
		}
		is(t, "both", sibsText(s), sibsText(known(seen, val(self, 1, "x"), val(self, 2, "w"))))
		is(t, "sent", sent(n), fmt.Sprintf("Put %d>%d #1 k%s", self, other, sibsText(s)))
	}
}

// P23.3: an answer of a life before a crash is none, unless it knows what was written in this one.
func TestLifeBefore(t *testing.T) {
	c := config(2, 2)
	d := disk.New(c.Disk)
	n := openOver(t, c, 1, d)
	n.Put("k", api.Vector{}, []byte("x"), false)
	before, _ := n.Store().Get("k")
	n = crash(t, c, 1, d, 0)
	n.Put("k", api.Vector{}, []byte("y"), false)
	n.Out()
	now, _ := n.Store().Get("k")
	ack := func(s api.Sibs) string {
		receive(n, 0, 1, api.Message{Kind: api.MPutAck, Op: 1, For: 0, Key: "k", Entries: entries(s, "k")})
		return answers(n)
	}
	is(t, "of the life before", ack(before), "")
	is(t, "that knows this one's", ack(now), "#1:0(0,2 1.1=x 1.2=y)")

	// A read of the life before: what is told of the same key counts.
	n.Get("k")
	n = crash(t, c, 1, d, 0)
	is(t, "of no read", got(n, 0, 1, entries(one(0, "z"), "k")), "")
	n.Get("l")
	n.Out()
	is(t, "of another key", got(n, 0, 1, entries(one(0, "z"), "k")), "")
	is(t, "of this key", got(n, 0, 1, entries(one(0, "z"), "l")), "#1:0(1 0.1=z)")
}

// P23.3, P23.4: hints last: they go on behind a crash, till their node knows them.
func TestHintsLast(t *testing.T) {
	c := config(3, 2)
	d := disk.New(c.Disk)
	n := openOver(t, c, 1, d)
	receive(n, 0, 1, api.Message{Kind: api.MHint, For: 2, Entries: entries(one(0, "x"), "k")})
	n = crash(t, c, 1, d, 0)
	is(t, "tick", tick(n), "Ping 1>2 A0 A0 A0; Hint 1>2 for 2 k(1 0.1=x); Digest 1>2 b0")
	receive(n, 2, 1, api.Message{Kind: api.MPutAck, For: 2, Key: "k", Entries: entries(one(0, "x"), "k")})
	n = crash(t, c, 1, d, 0)
	is(t, "has", has(n), " | ")
}

// P23.4: what was reaped stays so behind a crash.
func TestReapedLasts(t *testing.T) {
	c := config(1, 1)
	d := disk.New(c.Disk)
	n := openOver(t, c, 0, d)
	n.Put(inBucket(t, "k", 0), api.Vector{}, nil, true)
	n.Tick()
	was := has(n)
	n = crash(t, c, 0, d, 0)
	is(t, "has", has(n), was)
	is(t, "reaped", fmt.Sprint(strings.Contains(was, "!")), "false")
}

// A node may be opened over another's disk: a hint for itself is in nobody's way but other hints', and is never sent to itself.
func TestHintForItself(t *testing.T) {
	c := config(3, 3)
	d := disk.New(c.Disk)
	n := openOver(t, c, 1, d)
	receive(n, 0, 1, api.Message{Kind: api.MHint, For: 0, Entries: entries(one(2, "x"), "k")})
	n = openOver(t, c, 0, d)
	is(t, "tick", tick(n), "Ping 0>1 A0 A0 A0; Digest 0>1 b0")
	is(t, "hints", texts(n.Store().Hints(), hintText), "for 0 k(0,0,1 2.1=x)")
}

// talk hands messages on between nodes, by the order that pick tells, till none is left.
func talk(nodes []*Node, pick func(l []api.Message) int) {
	var l []api.Message
	for {
		for _, n := range nodes {
			l = append(l, n.Out()...)
		}
		if len(l) == 0 {
			return
		}
		i := pick(l)
		m := l[i]
		l = slices.Delete(l, i, i+1)
		nodes[m.To].Receive(m)
	}
}

// P23.2, P23.3, P23.7: nodes among themselves, in several orders: what is written at one is read at another.
func TestTogether(t *testing.T) {
	for name, pick := range map[string]func(l []api.Message) int{
		"first":  func(l []api.Message) int { return 0 },
		"last":   func(l []api.Message) int { return len(l) - 1 },
		"middle": func(l []api.Message) int { return len(l) / 2 },
	} {
		c := config(3, 3)
		var nodes []*Node
		for i := range 3 {
			nodes = append(nodes, open(t, c, i))
		}
		nodes[0].Put("k", api.Vector{}, []byte("x"), false)
		nodes[2].Put("k", api.Vector{}, []byte("y"), false)
		talk(nodes, pick)
		for _, i := range []int{0, 2} {
			if l := nodes[i].Answers(); len(l) != 1 || l[0].Err != api.OK || l[0].Op != 1 {
				t.Error(name, i, texts(l, answerText))
			}
		}
		for i, n := range nodes {
			is(t, name, has(n), "k(1,0,1 0.1=x 2.1=y) | ")
			if op, err := n.Get("k"); err != api.OK || op < 1 {
				t.Error(name, i, op, err)
			}
			talk(nodes, pick)
			if l := n.Answers(); len(l) != 1 || sibsText(l[0].Sibs) != "(1,0,1 0.1=x 2.1=y)" {
				t.Error(name, i, texts(l, answerText))
			}
		}
		s, _ := nodes[1].Store().Get("k")
		nodes[1].Put("k", s.Seen, nil, true)
		talk(nodes, pick)
		for _, n := range nodes {
			is(t, name, has(n), "k(1,1,1 1.1=!) | ")
		}
	}
}

// P23.4: what was lost on the way the background brings: in both directions, and without a client.
func TestBackground(t *testing.T) {
	c := config(3, 3)
	var nodes []*Node
	for i := range 3 {
		nodes = append(nodes, open(t, c, i))
	}
	nodes[0].Put("k", api.Vector{}, []byte("x"), false)
	nodes[1].Put("k", api.Vector{}, []byte("y"), false)
	nodes[2].Put("l", api.Vector{}, nil, true)
	for _, n := range nodes {
		n.Out()
	}
	for range 16 {
		for _, n := range nodes {
			n.Tick()
		}
		talk(nodes, func(l []api.Message) int { return 0 })
	}
	for _, n := range nodes {
		is(t, "has", has(n), "k(1,1 0.1=x 1.1=y); l(0,0,1) | ")
		is(t, "members", members(n), "A0; A0; A0")
	}
}

// P23.7: what a stand-in keeps comes to its owner when that is there again.
func TestHandOver(t *testing.T) {
	order := ring.New(4).Order("k")
	c := config(4, 2)
	nodes := make([]*Node, 4)
	for i := range nodes {
		nodes[i] = open(t, c, i)
	}
	writer, owner, standIn := nodes[order[0]], nodes[order[1]], nodes[order[2]]
	hold(writer, order[0], order[2], order[1], api.Member{State: api.Dead})
	writer.Put("k", api.Vector{}, []byte("x"), false)
	standIn.Receive(writer.Out()[0])
	writer.Receive(standIn.Out()[0])
	s, _ := writer.Store().Get("k")
	is(t, "answers", answers(writer), "#1:0"+sibsText(s))
	is(t, "kept", has(standIn), fmt.Sprint(" | for ", order[1], " k", sibsText(s)))
	standIn.Tick()
	for _, m := range standIn.Out() {
		if m.Kind == api.MHint {
			owner.Receive(m)
		}
	}
	is(t, "brought", has(owner), "k"+sibsText(s)+" | ")
	for _, m := range owner.Out() {
		standIn.Receive(m)
	}
	is(t, "gone", has(standIn), " | ")
	is(t, "no further answer", answers(writer)+answers(standIn)+answers(owner), "")
}

// spoil changes all that lies in a message's lists, and behind their lengths.
func spoil(m api.Message) {
	for _, e := range m.Entries[:cap(m.Entries)] {
		for i := range e.Sibs.Values[:cap(e.Sibs.Values)] {
			v := &e.Sibs.Values[:cap(e.Sibs.Values)][i]
			for k := range v.Data[:cap(v.Data)] {
				v.Data[:cap(v.Data)][k] = '#'
			}
			*v = val(7, 77, "#")
		}
	}
	clear(m.Entries[:cap(m.Entries)])
	for _, d := range m.Digests[:cap(m.Digests)] {
		clear(d.Dots[:cap(d.Dots)])
	}
	clear(m.Digests[:cap(m.Digests)])
	for i := range m.Members[:cap(m.Members)] {
		m.Members[:cap(m.Members)][i] = api.Member{State: api.Dead, Inc: 99}
	}
}

// deep is a message in memory of its own, with room behind each list in which something else lies.
func deep(m api.Message) api.Message {
	out := m
	out.Entries, out.Digests, out.Members = nil, nil, nil
	for _, e := range m.Entries {
		var values []api.Value
		for _, v := range e.Sibs.Values {
			if len(v.Data) > 0 {
				v.Data = append(slices.Clone(v.Data), "behind"...)[:len(v.Data)]
			}
			values = append(values, v)
		}
		e.Sibs.Values = append(values, val(6, 66, "behind"))[:len(values)]
		out.Entries = append(out.Entries, e)
	}
	for _, d := range m.Digests {
		d.Dots = append(slices.Clone(d.Dots), api.Dot{Node: 6, N: 66})[:len(d.Dots)]
		out.Digests = append(out.Digests, d)
	}
	out.Entries = append(out.Entries, api.Entry{Key: "behind"})[:len(m.Entries)]
	out.Digests = append(out.Digests, api.Digest{Key: "behind"})[:len(m.Digests)]
	out.Members = append(slices.Clone(m.Members), api.Member{Inc: 66})[:len(m.Members)]
	return out
}

// whole is a message's text, with what lies behind its lists.
func whole(m api.Message) string {
	out := messageText(m)
	for _, e := range m.Entries[:cap(m.Entries)] {
		out += entryText(e)
		for _, v := range e.Sibs.Values[:cap(e.Sibs.Values)] {
			out += fmt.Sprintf(" %v %q", v.Dot, v.Data[:cap(v.Data)])
		}
	}
	for _, d := range m.Digests[:cap(m.Digests)] {
		out += fmt.Sprint(" ", d.Key, d.Dots[:cap(d.Dots)])
	}
	return out + fmt.Sprint(m.Members[:cap(m.Members)])
}

// R2: what is received is neither changed nor kept; what is told is the caller's own. Two nodes of the same calls stay alike, though one's memory is spoilt.
func TestMemory(t *testing.T) {
	c := config(3, 3)
	c.R, c.Burst, c.Rate, c.Queue = 3, 2, 2, 9
	calm, harried := open(t, c, 1), open(t, c, 1)
	do := func(what string, f func(n *Node)) {
		t.Helper()
		f(calm)
		f(harried)
		want := texts(calm.Out(), messageText)
		out := harried.Out()
		is(t, what+" sent", texts(out, messageText), want)
		// Each is spoilt alone: those that are left are as they were.
		for i := range out {
			rest := texts(out[i+1:], messageText)
			spoil(out[i])
			is(t, what+": the rest", texts(out[i+1:], messageText), rest)
		}
		clear(out[:cap(out)])
		wantAnswers := answers(calm)
		l := harried.Answers()
		is(t, what+" answers", texts(l, answerText), wantAnswers)
		for i := range l {
			spoil(api.Message{Entries: []api.Entry{{Sibs: l[i].Sibs}}})
		}
		clear(l[:cap(l)])
		clear(harried.Members())
		is(t, what, all(harried), all(calm))
	}
	hears := func(from int, m api.Message) func(n *Node) {
		return func(n *Node) {
			m.From, m.To = from, 1
			x := deep(m)
			was := whole(x)
			n.Receive(x)
			is(t, "it is not changed", whole(x), was)
			if n == harried {
				spoil(x)
			}
		}
	}
	x, y := one(0, "x"), known(api.Vector{0, 0, 2}, val(2, 1, "y"), val(2, 2, "z"))
	do("put", hears(0, api.Message{Kind: api.MPut, Op: 3, Entries: entries(x, "k", "l")}))
	do("Put", func(n *Node) {
		data := append([]byte("long data"), "behind"...)[:9]
		n.Put("k", api.Vector{}, data, false)
		if string(data[:cap(data)][:15]) != "long databehind" {
			t.Errorf("data is %q", data[:cap(data)])
		}
		clear(data[:cap(data)])
	})
	do("ack", hears(0, api.Message{Kind: api.MPutAck, Op: 1, For: 0, Key: "k", Entries: entries(known(api.Vector{1, 9}, val(0, 1, "x")), "k")}))
	do("Get", func(n *Node) { n.Get("k") })
	do("Get of nothing", func(n *Node) { n.Get("m") })
	do("got", hears(0, api.Message{Kind: api.MGot, Op: 2, Entries: entries(x, "k")}))
	do("got", hears(2, api.Message{Kind: api.MGot, Op: 2, Entries: entries(y, "k")}))
	do("got", hears(2, api.Message{Kind: api.MGot, Op: 3, Entries: entries(y, "m")}))
	do("got", hears(0, api.Message{Kind: api.MGot, Op: 3}))
	do("get", hears(2, api.Message{Kind: api.MGet, Op: 3, Key: "k"}))
	do("hint", hears(2, api.Message{Kind: api.MHint, For: 0, Entries: entries(y, "k")}))
	do("hint", hears(2, api.Message{Kind: api.MHint, For: 1, Entries: entries(y, "n")}))
	for b := range api.Buckets {
		do("digest", hears(2, api.Message{Kind: api.MDigest, Bucket: b, Digests: []api.Digest{{Key: "k", Seen: x.Seen, Dots: []api.Dot{{N: 1}}}}}))
		do("sync", hears(0, api.Message{Kind: api.MSync, Bucket: b, Entries: entries(y, "k", "l"), Digests: []api.Digest{{Key: "k"}}}))
	}
	do("ping", hears(2, api.Message{Kind: api.MPing, Members: []api.Member{{Inc: 1}, {Inc: 1}, {Inc: 1}}}))
	do("ack", hears(2, api.Message{Kind: api.MAck, Members: []api.Member{{State: api.Dead, Inc: 1}, {Inc: 2}}}))
	for range 30 {
		do("tick", func(n *Node) { n.Tick() })
	}
	if calm.Sent() < 20 {
		t.Error("too little was pumped", calm.Sent())
	}
}

// R2: the messages of a Put share nothing, nor do the answers of one and its store.
func TestMemoryOfPut(t *testing.T) {
	c := config(4, 4)
	c.W = 1
	n := open(t, c, 0)
	n.Put("k", api.Vector{}, []byte("x"), false)
	out, l := n.Out(), n.Answers()
	spoil(out[0])
	is(t, "the second", texts(out[1].Entries, entryText), "k(1 0.1=x)")
	spoil(out[1])
	is(t, "the third", texts(out[2].Entries, entryText), "k(1 0.1=x)")
	spoil(out[2])
	is(t, "the answer", texts(l, answerText), "#1:0(1 0.1=x)")
	spoil(api.Message{Entries: []api.Entry{{Sibs: l[0].Sibs}}})
	is(t, "has", has(n), "k(1 0.1=x) | ")
	if out := append(out, api.Message{}); len(n.Out()) != 0 || len(out) != 4 {
		t.Error("out")
	}
}

// R2: what was told stays as it is, whatever is told later.
func TestMemoryOfOut(t *testing.T) {
	c := config(3, 3)
	c.W = 1
	n := open(t, c, 0)
	n.Put("k", api.Vector{}, []byte("x"), false)
	n.Tick()
	out, l, held := n.Out(), n.Answers(), n.Members()
	was := texts(out, messageText) + texts(l, answerText) + texts(held, memberText)
	n.Put("l", api.Vector{}, []byte("y"), false)
	hold(n, 0, 1, 2, api.Member{State: api.Dead})
	n.Tick()
	n.Tick()
	is(t, "told", texts(out, messageText)+texts(l, answerText)+texts(held, memberText), was)
	if later := n.Out(); len(later) < 4 || len(n.Answers()) != 1 {
		t.Error(len(later))
	}
	is(t, "told", texts(out, messageText)+texts(l, answerText)+texts(held, memberText), was)
}

// R3, P23.5: a nil node tells ErrArg and zero values; one that Open did not make does not panic.
func TestNil(t *testing.T) {
	for _, n := range []*Node{nil, {}} {
		for _, key := range []string{"", "k", strings.Repeat("k", 999)} {
			want := api.ErrArg
			if n != nil && keys.May(key) {
				want = api.ErrOwner
			}
			if op, err := n.Put(key, api.Vector{}, nil, false); op != 0 || err != want {
				t.Error(op, err)
			}
			if op, err := n.Get(key); op != 0 || err != want {
				t.Error(op, err)
			}
		}
		for _, m := range append(ordinary(), wrongMessages()...) {
			n.Receive(m)
			m.From = 2
			n.Receive(m)
			m.To = 1
			n.Receive(m)
		}
		n.Receive(api.Message{})
		n.Tick()
		if n.Out() != nil || n.Answers() != nil || n.Store() != nil || len(n.Members()) != 0 || n.Waiting() != 0 || n.Sent() != 0 || n.Ticks() != 0 {
			t.Error("it tells something")
		}
	}
}
