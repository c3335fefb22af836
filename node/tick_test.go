package node

import (
	"fmt"
	"slices"
	"strings"
	"sync"
	"testing"

	"tattler/api"
	"tattler/disk"
	"tattler/keys"
	"tattler/plan"
	"tattler/ring"
	"tattler/sibs"
)

// ping is an MPing's text, digests that of an MDigest.
func ping(from, to int, held string) string {
	return fmt.Sprint("Ping ", from, ">", to, " ", strings.ReplaceAll(held, ";", ""))
}
func digests(from, to, b int, rest string) string {
	return fmt.Sprint("Digest ", from, ">", to, " b", b, rest)
}

// tick lets n tick, and tells what it sent then.
func tick(n *Node) string {
	n.Tick()
	return sent(n)
}

// hear has n, the node self, hear of all others, so that it holds none for silent.
func hear(n *Node, self, nodes int) {
	for i := range nodes {
		n.Receive(api.Message{Kind: api.MAck, From: i, To: self})
	}
}

// P23.4: whom a tick asks, and of which bucket it tells, is the plan's word, over two rounds and more.
func TestTickPlan(t *testing.T) {
	for nodes := 2; nodes <= api.MaxNodes; nodes++ {
		held := strings.Join(slices.Repeat([]string{"A0"}, nodes), " ")
		for self := range nodes {
			n := open(t, config(nodes, nodes), self)
			for i := range 2*plan.Round(nodes) + 3 {
				peer, b := plan.Peer(nodes, self, int64(i)), plan.Bucket(nodes, int64(i))
				is(t, "tick", tick(n), ping(self, peer, held)+"; "+digests(self, peer, b, ""))
				if n.Ticks() != int64(i+1) || n.Sent() != int64(2*i+2) || n.Waiting() != 0 {
					t.Error(nodes, self, i, n.Ticks(), n.Sent(), n.Waiting())
				}
				hear(n, self, nodes)
			}
		}
	}
}

// P23.4: one node alone asks nobody and tells nobody; it reaps the bucket of its ticks modulo Buckets.
func TestTickAlone(t *testing.T) {
	n := open(t, config(1, 1), 0)
	var row []string
	for b := range api.Buckets {
		for i := range 2 {
			key := inBucket(t, fmt.Sprint("k", b, i), b)
			n.Put(key, api.Vector{}, nil, true)
			row = append(row, key)
		}
	}
	n.Answers()
	for i := range 3 * api.Buckets {
		is(t, "tick", tick(n), "")
		for k, key := range row {
			s, there := n.Store().Get(key)
			b, nth := k/2, k%2
			if gone := i >= b+api.Buckets*nth; !there || (len(s.Values) == 0) != gone || s.Seen != (api.Vector{1}) {
				t.Errorf("tick %d: %s is %s", i, key, sibsText(s))
			}
		}
		if n.Ticks() != int64(i+1) || n.Sent() != 0 || n.Waiting() != 0 {
			t.Error(i, n.Ticks(), n.Sent(), n.Waiting())
		}
	}
}

// P23.4: the digests are of the bucket's entries that both own, ahead of reaping.
func TestTickDigests(t *testing.T) {
	r := ring.New(4)
	n := open(t, config(4, 2), 1)
	for b := range api.Buckets {
		both, mine, other, none := own(t, b)
		l := entries(one(3, "!"), both, mine, other, none)
		if b == 1 {
			l[0].Sibs = known(api.Vector{2, 0, 0, 1}, val(0, 1, "x"), val(0, 2, "y"), val(3, 1, "!"))
		}
		receive(n, 0, 1, api.Message{Kind: api.MPut, Entries: l})
	}
	for i := range int64(12) {
		hear(n, 1, 4)
		peer, b := plan.Peer(4, 1, i), plan.Bucket(4, i)
		want := ""
		for _, e := range n.Store().Bucket(b) {
			if r.Owns(1, e.Key, 2) && r.Owns(peer, e.Key, 2) {
				want += " " + e.Key + "[" + seenText(e.Sibs.Seen)
				for _, v := range e.Sibs.Values {
					want += fmt.Sprintf(" %d.%d", v.Dot.Node, v.Dot.N)
				}
				want += "]"
			}
		}
		is(t, "tick", tick(n), ping(1, peer, "A0 A0 A0 A0")+"; "+digests(1, peer, b, want))
	}
}

// P23.4: of the bucket's entries, by key, the first that Reap changes is reaped; of no other bucket, of both that it owns and that it does not.
func TestTickReap(t *testing.T) {
	n := open(t, config(4, 2), 1)
	_, mine, _, none := own(t, 0)
	row := []string{mine, none, inBucket(t, "a", 0), inBucket(t, "z", 0), inBucket(t, "other", 1)}
	receive(n, 0, 1, api.Message{Kind: api.MPut, Entries: entries(one(3, "!"), row...)})
	// These are nothing to reap: something lives, or nothing stands.
	receive(n, 0, 1, api.Message{Kind: api.MPut, Entries: []api.Entry{
		{Key: inBucket(t, "a0", 0), Sibs: known(api.Vector{1, 1}, val(0, 1, "!"), val(1, 1, ""))},
		{Key: inBucket(t, "b0", 0), Sibs: known(api.Vector{1})},
	}})
	order := slices.Sorted(slices.Values(row[:4]))
	left := func() string {
		var out []string
		for _, e := range n.Store().All() {
			if !sibs.Same(e.Sibs, sibs.Reap(e.Sibs)) {
				out = append(out, e.Key)
			}
		}
		return strings.Join(out, " ")
	}
	want := slices.Sorted(slices.Values(row))
	for i := range 12 {
		n.Tick()
		hear(n, 1, 4)
		// Of four nodes bucket 0 comes with the ticks 0 to 2, bucket 1 with 3 to 5, bucket 0 again with 12.
		reaped := ""
		if i < 3 {
			reaped = order[i]
		} else if i == 3 {
			reaped = row[4]
		}
		want = slices.DeleteFunc(want, func(key string) bool { return key == reaped })
		is(t, fmt.Sprint("tick ", i), left(), strings.Join(want, " "))
	}
	n.Tick()
	is(t, "tick 12", left(), "")
	for _, key := range row {
		s, there := n.Store().Get(key)
		is(t, key, fmt.Sprint(sibsText(s), there), "(0,0,0,1)true")
	}
}

// P23.4: a disk without room refuses to reap; nothing else changes, and the next entry is not tried.
func TestTickReapRoom(t *testing.T) {
	d := disk.New(9999)
	c := config(1, 1)
	n := openOver(t, c, 0, d)
	n.Put(inBucket(t, "a", 0), api.Vector{}, nil, true)
	n.Put(inBucket(t, "b", 0), api.Vector{}, nil, true)
	tight := disk.New(d.Size())
	tight.Replace(d.Bytes())
	n = openOver(t, c, 0, tight)
	was := has(n)
	for range 4 {
		n.Tick()
	}
	// It is the store's own word whether there is room behind Compact.
	if now := has(n); now != was && strings.Count(now, "!") != 1 {
		t.Error(now)
	}
}

// P23.4: one that left a question open is asked again; one that left two open is suspected, ahead of being asked, and SuspectAge ticks later dead.
func TestTickMissed(t *testing.T) {
	n := open(t, config(2, 2), 1)
	for i, want := range []string{"A0 A0", "A0 A0", "S0 A0", "S0 A0", "S0 A0", "S0 A0", "S0 A0", "S0 A0", "D0 A0", "D0 A0", "D0 A0"} {
		is(t, fmt.Sprint(i), tick(n), ping(1, 0, want)+"; "+digests(1, 0, i%4, ""))
		is(t, fmt.Sprint(i), strings.ReplaceAll(members(n), ";", ""), want)
	}
	// It is asked on; that it says something does not bring it back, but that it says that it is alive.
	receive(n, 0, 1, api.Message{Kind: api.MAck})
	is(t, "members", members(n), "D0; A0")
	is(t, "asked", tick(n), ping(1, 0, "D0 A0")+"; "+digests(1, 0, 3, ""))
	receive(n, 0, 1, api.Message{Kind: api.MAck, Members: []api.Member{{Inc: 1}}})
	for i, want := range []string{"A1 A0", "A1 A0", "S1 A0"} {
		is(t, fmt.Sprint(i), tick(n), ping(1, 0, want)+"; "+digests(1, 0, i%4, ""))
	}
}

// P23.4: what counts is what a node sends of its own: MPing and MAck, not what else it sends.
func TestTickHeard(t *testing.T) {
	for _, m := range ordinary() {
		n := open(t, config(2, 2), 1)
		m.From, m.To, m.Members = 0, 1, nil
		var held []string
		for range 4 {
			n.Tick()
			n.Receive(m)
			held = append(held, members(n))
		}
		want := "A0; A0,A0; A0,S0; A0,S0; A0"
		if m.Kind == api.MPing || m.Kind == api.MAck {
			want = "A0; A0,A0; A0,A0; A0,A0; A0"
		}
		is(t, kinds[m.Kind], strings.Join(held, ","), want)
	}
	// Behind one question open and an answer two more are to be open.
	n := open(t, config(2, 2), 1)
	n.Tick()
	hear(n, 1, 2)
	n.Tick()
	n.Tick()
	is(t, "members", members(n), "A0; A0")
	n.Tick()
	is(t, "members", members(n), "S0; A0")
}

// P23.4: each node's questions are its own, and one that is not asked is not suspected.
func TestTickMissedEach(t *testing.T) {
	n := open(t, config(3, 3), 0)
	var held []string
	for range 7 {
		n.Tick()
		n.Receive(api.Message{Kind: api.MAck, From: 2, To: 0})
		held = append(held, members(n))
	}
	// Node 1 is asked at the ticks 0, 2, 4, 6.
	is(t, "held", strings.Join(held, ","), "A0; A0; A0,A0; A0; A0,A0; A0; A0,A0; A0; A0,A0; S0; A0,A0; S0; A0,A0; S0; A0")
}

// P23.4: the first hint, by node and key, whose node is not dead goes to that node; it stays till that node knows it.
func TestTickHints(t *testing.T) {
	n := open(t, config(4, 2), 1)
	x := one(0, "x")
	tail := func(l string) string {
		_, out, _ := strings.Cut(l, "; ")
		out, _, _ = strings.Cut(out, "Digest")
		return strings.TrimSuffix(out, "; ")
	}
	step := func(what, want string) {
		t.Helper()
		hear(n, 1, 4)
		is(t, what, tail(tick(n)), want)
	}
	step("none", "")
	for _, h := range []api.Hint{{For: 3, Entry: api.Entry{Key: "c", Sibs: x}}, {For: 2, Entry: api.Entry{Key: "b", Sibs: x}}, {For: 2, Entry: api.Entry{Key: "a", Sibs: one(3, "!")}}} {
		receive(n, 0, 1, api.Message{Kind: api.MHint, For: h.For, Op: 5, Entries: []api.Entry{h.Entry}})
	}
	step("the first", "Hint 1>2 for 2 a(0,0,0,1 3.1=!)")
	step("again", "Hint 1>2 for 2 a(0,0,0,1 3.1=!)")
	hold(n, 1, 0, 2, api.Member{State: api.Suspect})
	step("of one that is suspected", "Hint 1>2 for 2 a(0,0,0,1 3.1=!)")
	hold(n, 1, 0, 2, api.Member{State: api.Dead})
	step("but one that is dead", "Hint 1>3 for 3 c(1 0.1=x)")
	hold(n, 1, 0, 3, api.Member{State: api.Dead})
	step("all are dead", "")
	hold(n, 1, 0, 2, api.Member{Inc: 1})
	step("come again", "Hint 1>2 for 2 a(0,0,0,1 3.1=!)")
	receive(n, 2, 1, api.Message{Kind: api.MPutAck, For: 2, Key: "a", Entries: entries(one(3, "!"), "a")})
	step("the next", "Hint 1>2 for 2 b(1 0.1=x)")
	receive(n, 2, 1, api.Message{Kind: api.MPutAck, For: 2, Key: "b", Entries: entries(x, "b")})
	step("no more", "")
	hold(n, 1, 0, 3, api.Member{Inc: 1})
	step("the last", "Hint 1>3 for 3 c(1 0.1=x)")
	is(t, "hints", texts(n.Store().Hints(), hintText), "for 3 c(1 0.1=x)")
}

// P23.4: a hint for a node that the cluster has not is kept, and never passed on; it does not stand in the way of others.
func TestTickHintNowhere(t *testing.T) {
	n := open(t, config(2, 2), 1)
	receive(n, 0, 1, api.Message{Kind: api.MHint, For: 7, Entries: entries(one(0, "x"), "k")})
	is(t, "tick", tick(n), ping(1, 0, "A0 A0")+"; "+digests(1, 0, 0, ""))
	is(t, "hints", texts(n.Store().Hints(), hintText), "for 7 k(1 0.1=x)")
}

// P23.4: a node that is found dead in a tick, or suspected, is so for the hints of that tick.
func TestTickHintsLate(t *testing.T) {
	n := open(t, config(2, 2), 1)
	receive(n, 0, 1, api.Message{Kind: api.MHint, For: 0, Entries: entries(one(1, "x"), "k")})
	for i := range 12 {
		want := ""
		if i < 8 {
			want = "; Hint 1>0 for 0 k(0,1 1.1=x)"
		}
		held := "A0 A0"
		if i >= 2 {
			held = "S0 A0"
		}
		if i >= 8 {
			held = "D0 A0"
		}
		is(t, fmt.Sprint(i), tick(n), ping(1, 0, held)+want+"; "+digests(1, 0, i%4, ""))
	}
}

// P23.4: an operation times out with the tick that makes it Wait ticks old.
func TestTickTimeout(t *testing.T) {
	for _, wait := range []int{1, 2, 7, 1000} {
		c := config(3, 3)
		c.Wait = wait
		n := open(t, c, 0)
		n.Put("k", api.Vector{}, nil, false)
		n.Get("k")
		for i := range wait {
			is(t, "early", answers(n), "")
			hear(n, 0, 3)
			if n.Tick(); i == 0 && wait > 1 {
				n.Get("l")
			}
			n.Out()
		}
		is(t, "late", answers(n), "#1:9(); #2:9()")
		is(t, "an answer behind it", receive(n, 1, 0, api.Message{Kind: api.MPutAck, Op: 1, For: 1, Key: "k", Entries: n.known("k")})+answers(n), "")
		is(t, "and to the read", receive(n, 1, 0, api.Message{Kind: api.MGot, Op: 2, Entries: n.known("k")})+answers(n), "")
		n.Tick()
		if wait > 1 {
			is(t, "the next", answers(n), "#3:9()")
		}
	}
}

// P23.4, P23.6: Burst at the beginning, Rate a tick from then on; what waits goes by weight, and what has no room is lost.
func TestTokens(t *testing.T) {
	for _, z := range []struct{ rate, burst, queue int }{{1, 1, 1}, {1, 1, 2}, {1, 1, 3}, {1, 3, 4}, {2, 1, 9}, {2, 5, 9}, {3, 3, 1000}, {1000, 1, 5}, {1, 1000, 5}, {1000, 1000, 1000}} {
		c := config(3, 3)
		c.Rate, c.Burst, c.Queue = z.rate, z.burst, z.queue
		n := open(t, c, 0)
		tokens, waiting, pumped := z.burst, 0, 0
		for i := range 40 {
			hear(n, 0, 3)
			n.Tick()
			tokens = min(tokens+z.rate, z.burst)
			waiting = min(waiting+2, z.queue)
			take := min(tokens, waiting)
			tokens, waiting, pumped = tokens-take, waiting-take, pumped+take
			if l := len(n.Out()); l != take || n.Waiting() != waiting || n.Sent() != int64(pumped) {
				t.Fatal(z, i, l, n.Waiting(), n.Sent(), "not", take, waiting, pumped)
			}
		}
	}
}

// P23.3, P23.6: a message brings what it queues out at once, if there is a token; else it waits. What is sent at once needs none.
func TestReceiveTokens(t *testing.T) {
	c := config(2, 2)
	c.Burst, c.Rate, c.Queue = 2, 1, 2
	n := open(t, c, 1)
	for i, want := range []int{1, 1, 0, 0, 0} {
		n.Receive(api.Message{Kind: api.MDigest, From: 0, To: 1, Bucket: i % 4})
		if l := len(n.Out()); l != want || n.Waiting() != min(2, max(0, i-1)) || n.Sent() != int64(min(i+1, 2)) {
			t.Error(i, l, n.Waiting(), n.Sent())
		}
	}
	is(t, "at once", receive(n, 0, 1, api.Message{Kind: api.MGet, Op: 1, Key: "k"}), "Got 1>0 #1")
	is(t, "at once", receive(n, 0, 1, api.Message{Kind: api.MPing}), "Ack 1>0 A0 A0")
	n.Put("k", api.Vector{}, nil, false)
	is(t, "at once", sent(n), "Put 1>0 #1 k(0,1 1.1=)")
	// Two wait, and there is no room: what the first tick queues is lost, and the second's digests.
	is(t, "tick", tick(n), "Sync 1>0 b2")
	is(t, "tick", tick(n), "Ping 1>0 A0 A0")
	is(t, "waiting", fmt.Sprint(n.Waiting(), n.Sent()), "1 4")
}

// P23.4: what waits goes by its urgency: ping, then hint, then what came of digests, then digests; the longer, the more so.
func TestUrgency(t *testing.T) {
	c := config(2, 2)
	c.Burst, c.Rate, c.R = 1, 1, 2
	n := open(t, c, 1)
	n.Receive(api.Message{Kind: api.MDigest, From: 0, To: 1, Bucket: 3})
	is(t, "the only token", sent(n), "Sync 1>0 b3")
	receive(n, 0, 1, api.Message{Kind: api.MHint, For: 0, Entries: entries(one(1, "x"), "h")})
	receive(n, 0, 1, api.Message{Kind: api.MPut, Entries: entries(one(0, "x"), "k")})
	n.Get("k")
	n.Out()
	// In this order: a sync, a put behind a sync, a repair.
	n.Receive(api.Message{Kind: api.MDigest, From: 0, To: 1, Bucket: 1})
	n.Receive(api.Message{Kind: api.MSync, From: 0, To: 1, Bucket: keys.Bucket("k")})
	n.Receive(api.Message{Kind: api.MGot, From: 0, To: 1, Op: 1})
	is(t, "nothing goes", sent(n), "")
	if n.Waiting() != 3 {
		t.Fatal(n.Waiting())
	}
	var row []string
	for range 7 {
		row = append(row, tick(n))
		hear(n, 1, 2)
	}
	is(t, "ticks", strings.Join(row, ";"), strings.Join([]string{
		"Ping 1>0 A0 A0",              // 12; behind it repair 9, hint 8, two of a sync 5, digests 0
		"Ping 1>0 A0 A0",              // 12; repair 10, hint 9
		"Ping 1>0 A0 A0",              // 12; repair 11, hint 10
		"Put 1>0 k(1 0.1=x)",          // 12, put ahead of the ping, 12; hint 11
		"Ping 1>0 A0 A0",              // 13; hint 12, and another ping
		"Hint 1>0 for 0 h(0,1 1.1=x)", // 13, put ahead of that ping, 13
		"Ping 1>0 A0 A0",
	}, ";"))
}

// P23.6: Waiting is never above Queue, and asked from elsewhere at any time.
func TestQueueEnds(t *testing.T) {
	for _, most := range []int{1, 2, 999, 1000} {
		c := config(2, 2)
		c.Burst, c.Rate, c.Queue = 1, 1, most
		n := open(t, c, 1)
		for range 1200 {
			n.Receive(api.Message{Kind: api.MDigest, From: 0, To: 1})
			if n.Waiting() > most {
				t.Fatal(most, n.Waiting())
			}
		}
		if n.Waiting() != most || n.Sent() != 1 || len(n.Out()) != 1 {
			t.Error(most, n.Waiting(), n.Sent())
		}
	}
}

// P23.5: Out and Answers tell each once; Members, Waiting, Sent, Ticks and Store as often as they are asked.
func TestTell(t *testing.T) {
	c := config(3, 3)
	c.W = 1
	n := open(t, c, 0)
	n.Put("k", api.Vector{}, nil, false)
	n.Tick()
	n.Receive(api.Message{Kind: api.MPing, From: 2, To: 0})
	order := slices.DeleteFunc(ring.New(3).Order("k"), func(i int) bool { return i == 0 })
	is(t, "sent, in order", sent(n), fmt.Sprintf("Put 0>%d #1 k(1 0.1=); Put 0>%d #1 k(1 0.1=); Ping 0>1 A0 A0 A0; Digest 0>1 b0; Ack 0>2 A0 A0 A0", order[0], order[1]))
	is(t, "answers", answers(n), "#1:0(1 0.1=)")
	for range 3 {
		is(t, "again", sent(n)+answers(n), "")
		is(t, "all", all(n), "k(1 0.1=) |  | A0; A0; A0 | 0 2 1 1")
	}
	if n.Store() != n.Store() {
		t.Error("two stores")
	}
	if got := n.Out(); len(got) != 0 {
		t.Error(got)
	}
}

// Ways: what is counted may be asked by many while the node goes on.
func TestCounts(t *testing.T) {
	c := config(3, 3)
	c.Rate, c.Burst, c.Queue = 1, 3, 9
	n := open(t, c, 0)
	var all sync.WaitGroup
	for range 4 {
		all.Go(func() {
			ticks, sent := int64(0), int64(0)
			for range 500 {
				w, s, x := n.Waiting(), n.Sent(), n.Ticks()
				if w < 0 || w > 9 || s < sent || x < ticks {
					t.Error(w, s, x)
				}
				sent, ticks = s, x
			}
		})
	}
	for range 500 {
		n.Tick()
		n.Receive(api.Message{Kind: api.MDigest, From: 1, To: 0})
		n.Out()
	}
	all.Wait()
	if n.Ticks() != 500 || n.Sent() != 502 {
		t.Error(n.Ticks(), n.Sent())
	}
}
