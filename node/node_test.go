package node

import (
	"fmt"
	"math"
	"slices"
	"strings"
	"testing"

	"tattler/api"
	"tattler/digest"
	"tattler/disk"
	"tattler/keys"
	"tattler/local"
	"tattler/message"
	"tattler/ring"
)

// val is a value of a dot; "!" stands for one that is dead.
func val(node int, n int64, data string) api.Value {
	if data == "!" {
		return api.Value{Dot: api.Dot{Node: node, N: n}, Dead: true}
	}
	return api.Value{Dot: api.Dot{Node: node, N: n}, Data: []byte(data)}
}

// known is sibs.
func known(seen api.Vector, values ...api.Value) api.Sibs {
	return api.Sibs{Seen: seen, Values: values}
}

// one is a value that a node wrote first, and all that is known.
func one(node int, data string) api.Sibs {
	var seen api.Vector
	seen[node] = 1
	return known(seen, val(node, 1, data))
}

// entries is a row of entries of keys that all know the same.
func entries(s api.Sibs, keys ...string) []api.Entry {
	var out []api.Entry
	for _, key := range keys {
		out = append(out, api.Entry{Key: key, Sibs: s})
	}
	return out
}

// seenText is a vector's text, up to the last that is not 0.
func seenText(seen api.Vector) string {
	l := seen[:]
	for len(l) > 0 && l[len(l)-1] == 0 {
		l = l[:len(l)-1]
	}
	return strings.ReplaceAll(strings.Trim(fmt.Sprint(l), "[]"), " ", ",")
}

// sibsText is sibs' text: (seen node.n=data).
func sibsText(s api.Sibs) string {
	out := "(" + seenText(s.Seen)
	for _, v := range s.Values {
		out += fmt.Sprintf(" %d.%d=%s", v.Dot.Node, v.Dot.N, v.Data)
		if v.Dead {
			out += "!"
		}
	}
	return out + ")"
}

// entryText is an entry's text.
func entryText(e api.Entry) string { return e.Key + sibsText(e.Sibs) }

// kinds are the kinds' names.
var kinds = []string{"None", "Put", "PutAck", "Hint", "Get", "Got", "Digest", "Sync", "Ping", "Ack"}

// messageText is a message's text. What is its kind's alone and what is not are told alike, if it is not 0.
func messageText(m api.Message) string {
	out := fmt.Sprint(kinds[m.Kind], " ", m.From, ">", m.To)
	if m.Op != 0 {
		out += fmt.Sprint(" #", m.Op)
	}
	if m.For != 0 || m.Kind == api.MPutAck || m.Kind == api.MHint {
		out += fmt.Sprint(" for ", m.For)
	}
	if m.Key != "" {
		out += fmt.Sprint(" ", m.Key)
	}
	if m.Bucket != 0 || m.Kind == api.MDigest || m.Kind == api.MSync {
		out += fmt.Sprint(" b", m.Bucket)
	}
	for _, e := range m.Entries {
		out += " " + entryText(e)
	}
	for _, d := range m.Digests {
		out += fmt.Sprint(" ", d.Key, "[", seenText(d.Seen))
		for _, x := range d.Dots {
			out += fmt.Sprintf(" %d.%d", x.Node, x.N)
		}
		out += "]"
	}
	for _, x := range m.Members {
		out += fmt.Sprint(" ", "ASD"[x.State:x.State+1], x.Inc)
	}
	return out
}

// texts is the texts of a row, one behind the other.
func texts[T any](row []T, text func(x T) string) string {
	out := []string{}
	for _, x := range row {
		out = append(out, text(x))
	}
	return strings.Join(out, "; ")
}

// hintText is a hint's text.
func hintText(h api.Hint) string { return fmt.Sprint("for ", h.For, " ", entryText(h.Entry)) }

// memberText is a member's text.
func memberText(m api.Member) string { return fmt.Sprint("ASD"[m.State:m.State+1], m.Inc) }

// answerText is an answer's text.
func answerText(a api.Answer) string { return fmt.Sprint("#", a.Op, ":", int(a.Err), sibsText(a.Sibs)) }

// sent is what n sent since it was asked last.
func sent(n *Node) string { return texts(n.Out(), messageText) }

// answers is what n answered since it was asked last.
func answers(n *Node) string { return texts(n.Answers(), answerText) }

// has is what n's store knows, and keeps for others.
func has(n *Node) string {
	return texts(n.Store().All(), entryText) + " | " + texts(n.Store().Hints(), hintText)
}

// members is what n holds of all.
func members(n *Node) string { return texts(n.Members(), memberText) }

// all is all that n tells, but for what telling takes away.
func all(n *Node) string {
	return fmt.Sprint(has(n), " | ", members(n), " | ", n.Waiting(), " ", n.Sent(), " ", n.Ticks(), " ", n.Store().Records())
}

// is holds a text against what it should be.
func is(t *testing.T, what, got, want string) {
	t.Helper()
	if got != want {
		t.Errorf("%s:\n %s\nshould be\n %s", what, got, want)
	}
}

// config is one for so many nodes and owners, with room enough for all.
func config(nodes, owners int) api.Config {
	return api.Config{Nodes: nodes, Owners: owners, R: min(2, owners), W: min(2, owners), Wait: 3, Queue: 100, Rate: 100, Burst: 100, Disk: api.MaxFile}
}

// open is the node id over an empty disk.
func open(t *testing.T, c api.Config, id int) *Node {
	t.Helper()
	return openOver(t, c, id, disk.New(c.Disk))
}

// openOver is the node id over a disk.
func openOver(t *testing.T, c api.Config, id int, d *disk.Disk) *Node {
	t.Helper()
	n, err := Open(c, id, d)
	if n == nil || err != api.OK {
		t.Fatalf("Open of %v, %d: %v %v", c, id, n, err)
	}
	return n
}

// find is the first of k0, k1, .. that is such a key.
func find(t *testing.T, such func(key string) bool) string {
	t.Helper()
	for i := range 100000 {
		if key := fmt.Sprint("k", i); such(key) {
			return key
		}
	}
	t.Fatal("no such key")
	return ""
}

// ordered is a key that these nodes of so many come first for.
func ordered(t *testing.T, nodes int, first ...int) string {
	t.Helper()
	r := ring.New(nodes)
	return find(t, func(key string) bool { return slices.Equal(r.Owners(key, len(first)), first) })
}

// inBucket is a key of a bucket, behind the text's beginning.
func inBucket(t *testing.T, beginning string, b int) string {
	t.Helper()
	for i := range 100 {
		if key := fmt.Sprint(beginning, i); keys.Bucket(key) == b {
			return key
		}
	}
	t.Fatal("no such key")
	return ""
}

// receive hands n a message of another node to it, and tells what it sent then.
func receive(n *Node, from, to int, m api.Message) string {
	m.From, m.To = from, to
	n.Receive(m)
	return sent(n)
}

// hold has n, which is the node self, hold a node for what m says: it is told so by from.
func hold(n *Node, self, from, node int, m api.Member) {
	l := make([]api.Member, node+1)
	l[node] = m
	n.Receive(api.Message{Kind: api.MAck, From: from, To: self, Members: l})
}

// P23.1: a node over an empty disk has nothing, and holds all for alive.
func TestOpen(t *testing.T) {
	for nodes := 1; nodes <= api.MaxNodes; nodes++ {
		for id := range nodes {
			n := open(t, config(nodes, nodes), id)
			is(t, "a new node", all(n), " |  | "+strings.Join(slices.Repeat([]string{"A0"}, nodes), "; ")+" | 0 0 0 0")
			is(t, "sent", sent(n), "")
			is(t, "answers", answers(n), "")
		}
	}
}

// P23.1: each number of a config has its ends; behind them is ErrArg.
func TestOpenConfig(t *testing.T) {
	base := func() api.Config { return config(4, 3) }
	for _, z := range []struct {
		what        string
		set         func(c *api.Config, to int)
		least, most int
	}{
		{"Nodes", func(c *api.Config, to int) { c.Nodes = to }, 3, 8},
		{"Nodes, one owner", func(c *api.Config, to int) { c.Nodes, c.Owners, c.R, c.W = to, 1, 1, 1 }, 1, 8},
		{"Owners", func(c *api.Config, to int) { c.Owners = to }, 2, 4},
		{"Owners of one", func(c *api.Config, to int) { c.Owners, c.R, c.W = to, 1, 1 }, 1, 4},
		{"R", func(c *api.Config, to int) { c.R = to }, 1, 3},
		{"W", func(c *api.Config, to int) { c.W = to }, 1, 3},
		{"Wait", func(c *api.Config, to int) { c.Wait = to }, 1, 1000},
		{"Queue", func(c *api.Config, to int) { c.Queue = to }, 1, 1000},
		{"Rate", func(c *api.Config, to int) { c.Rate = to }, 1, 1000},
		{"Burst", func(c *api.Config, to int) { c.Burst = to }, 1, 1000},
		{"Disk", func(c *api.Config, to int) { c.Disk = to }, 0, api.MaxFile},
	} {
		for _, to := range []int{z.least, z.least + 1, z.most - 1, z.most} {
			c := base()
			z.set(&c, to)
			openOver(t, c, 0, disk.New(100))
		}
		for _, to := range []int{z.least - 1, -1, -2, math.MinInt, math.MinInt + 1, -1 << 32, z.most + 1, z.most + 2, 1<<32 + 1, 1 << 40, math.MaxInt} {
			c := base()
			z.set(&c, to)
			if n, err := Open(c, 0, disk.New(100)); n != nil || err != api.ErrArg {
				t.Errorf("%s of %d: %v %v", z.what, to, n != nil, err)
			}
		}
	}
	if n, err := Open(api.Config{}, 0, disk.New(9)); n != nil || err != api.ErrArg {
		t.Error("a config of nothing", n, err)
	}
}

// P23.1: an id that is no node of the cluster is ErrArg, though it be one of another.
func TestOpenID(t *testing.T) {
	for nodes := 1; nodes <= api.MaxNodes; nodes++ {
		for _, id := range []int{math.MinInt, -1 << 32, -8, -1, nodes, nodes + 1, 8, 64, 1 << 32, math.MaxInt} {
			if n, err := Open(config(nodes, 1), id, disk.New(9)); n != nil || err != api.ErrArg {
				t.Errorf("node %d of %d: %v %v", id, nodes, n != nil, err)
			}
		}
	}
}

// P23.1: local.Open's error, behind those of the config and the id; the disk stays as it is then.
func TestOpenDisk(t *testing.T) {
	if n, err := Open(config(3, 3), 0, nil); n != nil || err != api.ErrArg {
		t.Error("no disk", n, err)
	}
	// A record of no kind: an ordinary log otherwise.
	d := disk.New(1000)
	n := openOver(t, config(1, 1), 0, d)
	n.Put("k", api.Vector{}, []byte("x"), false)
	b := d.Bytes()
	odd := slices.Clone(b)
	odd[len(odd)-1]++
	torn := b[:len(b)-1]
	for _, z := range []struct {
		what string
		b    []byte
	}{{"whole", b}, {"odd", odd}, {"torn", torn}, {"other", []byte("something else that is no log at all")}} {
		x, y := disk.New(1000), disk.New(1000)
		x.Replace(z.b)
		y.Replace(z.b)
		n, err := Open(config(3, 3), 1, x)
		s, want := openLocal(y)
		if err != want || (n == nil) != (want != api.OK) || !slices.Equal(x.Bytes(), y.Bytes()) {
			t.Error(z.what, err, want)
		}
		if n != nil {
			is(t, z.what, has(n), s)
		}
		was := slices.Clone(x.Bytes())
		if n, err := Open(api.Config{}, 1, x); n != nil || err != api.ErrArg || !slices.Equal(x.Bytes(), was) {
			t.Error(z.what, "and no config", err)
		}
		if n, err := Open(config(3, 3), 3, x); n != nil || err != api.ErrArg || !slices.Equal(x.Bytes(), was) {
			t.Error(z.what, "and no id", err)
		}
	}
}

// The chapter's example: one node, W 1.
func TestExample(t *testing.T) {
	n := open(t, config(1, 1), 0)
	op, err := n.Put("k", api.Vector{}, []byte("x"), false)
	if op != 1 || err != api.OK {
		t.Error(op, err)
	}
	is(t, "answers", answers(n), "#1:0(1 0.1=x)")
	is(t, "answers, again", answers(n), "")
	is(t, "sent", sent(n), "")
	is(t, "all", all(n), "k(1 0.1=x) |  | A0 | 0 0 0 1")
}

// P23.2: one node alone writes and reads, each with a number of its own; nothing is sent.
func TestAlone(t *testing.T) {
	n := open(t, config(1, 1), 0)
	n.Put("k", api.Vector{}, []byte("x"), false)
	n.Put("k", api.Vector{}, []byte("y"), false)
	n.Get("k")
	n.Put("k", api.Vector{2}, []byte("z"), false)
	n.Get("k")
	n.Get("nothing")
	n.Put("k", api.Vector{3}, nil, true)
	op, err := n.Get("k")
	if op != 8 || err != api.OK {
		t.Error(op, err)
	}
	is(t, "answers", answers(n), "#1:0(1 0.1=x); #2:0(2 0.1=x 0.2=y); #3:0(2 0.1=x 0.2=y); #4:0(3 0.3=z); #5:0(3 0.3=z); #6:0(); #7:0(4 0.4=!); #8:0(4 0.4=!)")
	is(t, "sent", sent(n), "")
	is(t, "all", all(n), "k(4 0.4=!) |  | A0 | 0 0 0 4")
}

// P23.2: a Put goes to the other owners in the ring's order, wherever among them the writer stands.
func TestPutOrder(t *testing.T) {
	for nodes := 2; nodes <= api.MaxNodes; nodes++ {
		for owners := 1; owners <= nodes; owners++ {
			for _, key := range []string{"k", "l", "a longer key", "\x00", strings.Repeat("z", api.MaxKey)} {
				order := ring.New(nodes).Order(key)
				for _, self := range order[:owners] {
					n := open(t, config(nodes, owners), self)
					op, err := n.Put(key, api.Vector{5: 3}, []byte("x"), false)
					if op != 1 || err != api.OK {
						t.Error(op, err)
					}
					var puts, gets []string
					s, _ := n.Store().Get(key)
					for _, other := range order[:owners] {
						if other != self {
							puts = append(puts, fmt.Sprintf("Put %d>%d #1 %s%s", self, other, key, sibsText(s)))
							gets = append(gets, fmt.Sprintf("Get %d>%d #2 %s", self, other, key))
						}
					}
					is(t, "puts", sent(n), strings.Join(puts, "; "))
					n.Get(key)
					is(t, "gets", sent(n), strings.Join(gets, "; "))
					if n.Waiting() != 0 || n.Sent() != 0 {
						t.Error("what is sent at once waits, or counts")
					}
				}
			}
		}
	}
}

// P23.2: W of 1 is answered at once, W of all owners when all have answered; what is sent is the same.
func TestPutNeed(t *testing.T) {
	for w := 1; w <= 3; w++ {
		c := config(3, 3)
		c.W = w
		n := open(t, c, 1)
		key := ordered(t, 3, 1, 2, 0)
		n.Put(key, api.Vector{}, []byte("x"), false)
		is(t, "sent", sent(n), fmt.Sprintf("Put 1>2 #1 %[1]s(0,1 1.1=x); Put 1>0 #1 %[1]s(0,1 1.1=x)", key))
		answered := answers(n)
		for _, from := range []int{0, 2} {
			receive(n, from, 1, api.Message{Kind: api.MPutAck, Op: 1, For: from, Key: key, Entries: entries(one(1, "x"), key)})
			answered += "," + answers(n)
		}
		want := []string{"#1:0(0,1 1.1=x),,", ",#1:0(0,1 1.1=x),", ",,#1:0(0,1 1.1=x)"}
		is(t, "answered", answered, want[w-1])
	}
}

// P23.2: R likewise. Behind the last of R answers nothing changes it.
func TestGetNeed(t *testing.T) {
	for r := 1; r <= 3; r++ {
		c := config(3, 3)
		c.R = r
		n := open(t, c, 1)
		key := ordered(t, 3, 1, 2, 0)
		receive(n, 0, 1, api.Message{Kind: api.MPut, Entries: entries(one(1, "x"), key)})
		n.Get(key)
		is(t, "sent", sent(n), fmt.Sprintf("Get 1>2 #1 %[1]s; Get 1>0 #1 %[1]s", key))
		answered := answers(n)
		for _, from := range []int{0, 2} {
			receive(n, from, 1, api.Message{Kind: api.MGot, Op: 1, Entries: entries(one(from, "y"), key)})
			answered += "," + answers(n)
		}
		want := []string{"#1:0(0,1 1.1=x),,", ",#1:0(1,1 0.1=y 1.1=x),", ",,#1:0(1,1,1 0.1=y 1.1=x 2.1=y)"}
		is(t, "answered", answered, want[r-1])
	}
}

// P23.2: a Put's value stands beside what its writer had not seen, and what is sent is all that is known then.
func TestPutBeside(t *testing.T) {
	n := open(t, config(3, 3), 0)
	key := ordered(t, 3, 0)
	order := ring.New(3).Order(key)
	receive(n, 1, 0, api.Message{Kind: api.MPut, Entries: entries(one(1, "y"), key)})
	for i, z := range []struct {
		seen api.Vector
		data string
		want string
	}{
		{api.Vector{}, "a", "(1,1 0.1=a 1.1=y)"},
		{api.Vector{1}, "b", "(2,1 0.2=b 1.1=y)"},
		{api.Vector{0, 1}, "c", "(3,1 0.2=b 0.3=c)"},
		{api.Vector{3, 1}, "!", "(4,1 0.4=!)"},
		{api.Vector{7: api.MaxCount}, "d", fmt.Sprint("(5,1,0,0,0,0,0,", int64(api.MaxCount), " 0.4=! 0.5=d)")},
	} {
		v := val(0, 1, z.data)
		op, err := n.Put(key, z.seen, v.Data, v.Dead)
		if op != int64(i+1) || err != api.OK {
			t.Error(op, err)
		}
		is(t, "sent", sent(n), fmt.Sprintf("Put 0>%[1]d #%[2]d %[3]s%[4]s; Put 0>%[5]d #%[2]d %[3]s%[4]s", order[1], op, key, z.want, order[2]))
		is(t, "has", has(n), key+z.want+" | ")
	}
}

// P23.2: a key that may not be is ErrArg, ahead of all else; one that it is no owner of ErrOwner, ahead of ErrFull.
func TestRefusedKeys(t *testing.T) {
	c := config(4, 2)
	for id := range c.Nodes {
		n := open(t, c, id)
		foreign := find(t, func(key string) bool { return !ring.New(4).Owns(id, key, 2) })
		own := find(t, func(key string) bool { return ring.New(4).Owns(id, key, 2) })
		for full := range 2 {
			was := all(n)
			for _, key := range []string{"", strings.Repeat("k", api.MaxKey+1), strings.Repeat("k", 4000)} {
				refused(t, n, key, api.ErrArg)
			}
			refused(t, n, foreign, api.ErrOwner)
			if full == 0 {
				for range api.MaxOps {
					n.Get(own)
				}
				n.Out()
			}
			is(t, "all", all(n), was)
		}
		refused(t, n, own, api.ErrFull)
	}
}

// refused holds that a node begins nothing for a key.
func refused(t *testing.T, n *Node, key string, want api.Errno) {
	t.Helper()
	was := all(n)
	if op, err := n.Put(key, api.Vector{}, []byte("x"), false); op != 0 || err != want {
		t.Errorf("Put of %q: %d %v, not %v", key, op, err, want)
	}
	if op, err := n.Put(key, api.Vector{-1}, make([]byte, 999), true); op != 0 || err != want {
		t.Errorf("Put of %q and what may not be: %d %v, not %v", key, op, err, want)
	}
	if op, err := n.Get(key); op != 0 || err != want {
		t.Errorf("Get of %q: %d %v, not %v", key, op, err, want)
	}
	is(t, "all", all(n), was)
	is(t, "sent", sent(n), "")
	is(t, "answers", answers(n), "")
}

// P23.2: which keys a node takes is the ring's word, for every count of owners.
func TestOwners(t *testing.T) {
	for nodes := 1; nodes <= api.MaxNodes; nodes++ {
		r := ring.New(nodes)
		for owners := 1; owners <= nodes; owners++ {
			c := config(nodes, owners)
			for id := range nodes {
				n := open(t, c, id)
				for k := range 12 {
					key, want := fmt.Sprint("key", k), api.OK
					if !slices.Contains(r.Order(key)[:owners], id) {
						want = api.ErrOwner
					}
					_, put := n.Put(key, api.Vector{}, nil, false)
					_, get := n.Get(key)
					if put != want || get != want {
						t.Error(nodes, owners, id, key, put, get)
					}
				}
			}
		}
	}
}

// P23.2: MaxOps are under way, and one more is ErrFull, till one of them is done, or times out.
func TestFull(t *testing.T) {
	n := open(t, config(3, 3), 0)
	for i := range api.MaxOps {
		begin := n.Get
		if i%2 == 0 {
			begin = func(key string) (int64, api.Errno) { return n.Put(fmt.Sprint(key, i), api.Vector{99}, nil, false) }
		}
		if op, err := begin("k"); op != int64(i+1) || err != api.OK {
			t.Error(i, op, err)
		}
	}
	n.Out()
	refused(t, n, "k", api.ErrFull)
	receive(n, 1, 0, api.Message{Kind: api.MGot, Op: 4})
	is(t, "answers", fmt.Sprint(strings.Count(answers(n), "#4:0")), "1")
	if op, err := n.Get("k"); op != api.MaxOps+1 || err != api.OK {
		t.Error(op, err)
	}
	n.Out()
	refused(t, n, "k", api.ErrFull)
	for range 3 {
		n.Tick()
	}
	if l := n.Answers(); len(l) != api.MaxOps || l[0].Op != 1 || l[3].Op != 5 || l[63].Op != 65 || l[63].Err != api.ErrTimeout {
		t.Error(texts(l, answerText))
	}
	if op, err := n.Put("k", api.Vector{}, nil, false); op != api.MaxOps+2 || err != api.OK {
		t.Error(op, err)
	}
}

// P23.2: what needs one answer alone is under way never: there is always room for it.
func TestNeverFull(t *testing.T) {
	c := config(3, 3)
	c.W, c.R = 1, 1
	n := open(t, c, 0)
	for i := range 3 * api.MaxOps {
		if op, err := n.Get("k"); op != int64(i+1) || err != api.OK {
			t.Error(i, op, err)
		}
	}
	if l := n.Answers(); len(l) != 3*api.MaxOps {
		t.Error(len(l))
	}
}

// P23.2: local.Put's errors; nothing is begun then.
func TestPutErrors(t *testing.T) {
	c := config(3, 3)
	n := open(t, c, 0)
	many := known(api.Vector{0, 16})
	for i := range int64(api.MaxValues) {
		many.Values = append(many.Values, val(1, i+1, "x"))
	}
	receive(n, 1, 0, api.Message{Kind: api.MPut, Entries: []api.Entry{
		{Key: "end", Sibs: known(api.Vector{api.MaxCount})}, {Key: "many", Sibs: many},
	}})
	was := all(n)
	for i, z := range []struct {
		key  string
		seen api.Vector
		data int
		dead bool
		want api.Errno
	}{
		{"k", api.Vector{-1}, 0, false, api.ErrArg},
		{"k", api.Vector{0, api.MaxCount + 1}, 0, false, api.ErrArg},
		{"k", api.Vector{7: math.MinInt64}, 0, false, api.ErrArg},
		{"k", api.Vector{}, api.MaxData + 1, false, api.ErrArg},
		{"k", api.Vector{}, 1, true, api.ErrArg},
		{"end", api.Vector{}, 0, false, api.ErrLimit},
		{"k", api.Vector{api.MaxCount}, 0, false, api.ErrLimit},
		{"many", api.Vector{}, 0, false, api.ErrLimit},
		{"many", api.Vector{16}, 0, false, api.ErrLimit},
	} {
		if op, err := n.Put(z.key, z.seen, make([]byte, z.data), z.dead); op != 0 || err != z.want {
			t.Errorf("%d: %d %v, not %v", i, op, err, z.want)
		}
		is(t, "all", all(n), was)
		is(t, "sent", sent(n), "")
		is(t, "answers", answers(n), "")
	}
	for i, z := range []struct {
		key  string
		seen api.Vector
		data int
	}{{"k", api.Vector{7: api.MaxCount}, api.MaxData}, {"many", api.Vector{0, 1}, 1}, {"end2", api.Vector{api.MaxCount - 1}, 0}} {
		if op, err := n.Put(z.key, z.seen, make([]byte, z.data), false); op != int64(i+1) || err != api.OK {
			t.Error(z.key, op, err)
		}
	}
}

// P23.2: a disk without room refuses a Put (ErrRoom); reading goes on.
func TestPutRoom(t *testing.T) {
	c := config(3, 3)
	c.Disk = 60
	n := open(t, c, 0)
	if _, err := n.Put("k", api.Vector{}, make([]byte, 20), false); err != api.OK {
		t.Fatal(err)
	}
	n.Out()
	was := has(n)
	if op, err := n.Put("l", api.Vector{}, make([]byte, 40), false); op != 0 || err != api.ErrRoom {
		t.Error(op, err)
	}
	is(t, "has", has(n), was)
	is(t, "sent", sent(n), "")
	if op, err := n.Get("l"); op != 2 || err != api.OK {
		t.Error(op, err)
	}
	order := ring.New(3).Owners("l", 3)
	order = slices.DeleteFunc(order, func(i int) bool { return i == 0 })
	is(t, "gets", sent(n), fmt.Sprintf("Get 0>%d #2 l; Get 0>%d #2 l", order[0], order[1]))
}

// P23.2: MaxKeys keys, and no more (ErrLimit), of which a Put of one that is there is none.
func TestPutKeys(t *testing.T) {
	n := open(t, config(3, 3), 0)
	var l []api.Entry
	for i := range api.MaxKeys {
		l = append(l, api.Entry{Key: fmt.Sprint("key", i)})
	}
	receive(n, 1, 0, api.Message{Kind: api.MPut, Entries: l})
	if op, err := n.Put("other", api.Vector{}, nil, false); op != 0 || err != api.ErrLimit {
		t.Error(op, err)
	}
	if op, err := n.Put("key9", api.Vector{}, nil, false); op != 1 || err != api.OK {
		t.Error(op, err)
	}
	if op, err := n.Get("other"); op != 2 || err != api.OK {
		t.Error(op, err)
	}
}

// P23.2: for an owner that is dead another node keeps what is written; of two dead ones each has one of its own.
func TestStandIns(t *testing.T) {
	order := ring.New(6).Order("k")
	s := "k(" + seenText(one(order[1], "x").Seen) + fmt.Sprintf(" %d.1=x)", order[1])
	put := func(to int) string { return fmt.Sprintf("Put %d>%d #1 %s", order[1], order[to], s) }
	hint := func(to, who int) string {
		return fmt.Sprintf("Hint %d>%d #1 for %d %s", order[1], order[to], order[who], s)
	}
	for _, z := range []struct {
		what string
		dead []int
		want []string
	}{
		{"none", nil, []string{put(0), put(2)}},
		{"the first", []int{0}, []string{hint(3, 0), put(2)}},
		{"the last", []int{2}, []string{put(0), hint(3, 2)}},
		{"two", []int{0, 2}, []string{hint(3, 0), hint(4, 2)}},
		{"one and the first stand-in", []int{0, 3}, []string{hint(4, 0), put(2)}},
		{"one and the second stand-in", []int{2, 4}, []string{put(0), hint(3, 2)}},
		{"one and two stand-ins", []int{2, 3, 4}, []string{put(0), hint(5, 2)}},
		{"two and the first stand-in", []int{0, 2, 3}, []string{hint(4, 0), hint(5, 2)}},
		{"two and the one in the middle", []int{0, 2, 4}, []string{hint(3, 0), hint(5, 2)}},
		{"two, and one left", []int{0, 2, 3, 4}, []string{hint(5, 0), put(2)}},
		{"two, and another left", []int{0, 2, 4, 5}, []string{hint(3, 0), put(2)}},
		{"all", []int{0, 2, 3, 4, 5}, []string{put(0), put(2)}},
		{"all that are none", []int{3, 4, 5}, []string{put(0), put(2)}},
	} {
		n := open(t, config(6, 3), order[1])
		for _, i := range z.dead {
			hold(n, order[1], order[0], order[i], api.Member{State: api.Dead})
		}
		// A read asks the owners, whatever is held of them, and nobody else.
		n.Put("k", api.Vector{}, []byte("x"), false)
		is(t, z.what, sent(n), strings.Join(z.want, "; "))
		n.Get("k")
		is(t, z.what+", read", sent(n), fmt.Sprintf("Get %[1]d>%[2]d #2 k; Get %[1]d>%[3]d #2 k", order[1], order[0], order[2]))
	}
}

// P23.2: one that is suspected is not dead, neither as an owner nor as a stand-in; one that came again is alive.
func TestStandInStates(t *testing.T) {
	order := ring.New(4).Order("k")
	self := order[0]
	n := open(t, config(4, 2), self)
	kindTo := func() string {
		n.Put("k", api.Vector{}, nil, false)
		m := n.Out()
		return texts(m, func(m api.Message) string { return fmt.Sprint(kinds[m.Kind], slices.Index(order, m.To)) })
	}
	for i, z := range []struct {
		node int
		held api.Member
		want string
	}{
		{1, api.Member{State: api.Suspect}, "Put1"},
		{2, api.Member{State: api.Suspect}, "Put1"},
		{1, api.Member{State: api.Dead}, "Hint2"},
		{2, api.Member{State: api.Dead}, "Hint3"},
		{3, api.Member{State: api.Dead}, "Put1"},
		{3, api.Member{Inc: 1}, "Hint3"},
		{2, api.Member{State: api.Suspect, Inc: 1}, "Hint2"},
		{1, api.Member{Inc: 1}, "Put1"},
	} {
		hold(n, self, order[3], order[z.node], z.held)
		is(t, fmt.Sprint(i), kindTo(), z.want)
	}
}

// P23.2: where all nodes are owners there is no stand-in: it is as if none were dead.
func TestNoStandIn(t *testing.T) {
	n := open(t, config(3, 3), 0)
	hold(n, 0, 1, 1, api.Member{State: api.Dead})
	hold(n, 0, 1, 2, api.Member{State: api.Dead})
	n.Put("k", api.Vector{}, nil, false)
	order := slices.DeleteFunc(ring.New(3).Order("k"), func(i int) bool { return i == 0 })
	is(t, "sent", sent(n), fmt.Sprintf("Put 0>%d #1 k(1 0.1=); Put 0>%d #1 k(1 0.1=)", order[0], order[1]))
}

// P23.2: who keeps it counts for the owner that it keeps it for: the owner itself then counts no more.
func TestStandInCounts(t *testing.T) {
	order := ring.New(5).Order("k")
	c := config(5, 3)
	c.W = 3
	n := open(t, c, order[0])
	hold(n, order[0], order[2], order[1], api.Member{State: api.Dead})
	n.Put("k", api.Vector{}, []byte("x"), false)
	s, _ := n.Store().Get("k")
	ack := func(from, who int) string {
		receive(n, order[from], order[0], api.Message{Kind: api.MPutAck, Op: 1, For: order[who], Key: "k", Entries: entries(s, "k")})
		return answers(n)
	}
	is(t, "the stand-in", ack(3, 1), "")
	is(t, "the stand-in, again", ack(3, 1), "")
	is(t, "the owner itself", ack(1, 1), "")
	is(t, "itself", ack(3, 0), "")
	is(t, "the other owner", ack(2, 2), "#1:0"+sibsText(s))
	is(t, "the other owner, again", ack(2, 2), "")
}

// P23.3: nothing comes of what is no message, of one to another node, from itself, from no node of the cluster.
func TestNotHeard(t *testing.T) {
	c := config(3, 3)
	c.W, c.R = 3, 3
	n := open(t, c, 1)
	n.Put("k", api.Vector{}, []byte("x"), false)
	n.Get("k")
	n.Out()
	was := all(n)
	quiet := func(what string, m api.Message) {
		n.Receive(m)
		is(t, what+" "+kinds[max(0, min(m.Kind, api.MAck))], all(n), was)
		is(t, what, sent(n)+answers(n), "")
	}
	for _, m := range ordinary() {
		for _, from := range []int{1, 3, 7, 8, -1, math.MinInt, math.MaxInt, 1 << 32} {
			m.From, m.To = from, 1
			quiet("from", m)
		}
		for _, to := range []int{0, 2, 3, 7, 8, -1, math.MinInt, math.MaxInt, 1<<32 + 1} {
			m.From, m.To = 0, to
			quiet("to", m)
		}
	}
	for _, m := range wrongMessages() {
		m.From, m.To = 2, 1
		quiet("wrong", m)
	}
	for _, kind := range []int{0, -1, 10, math.MinInt, math.MaxInt} {
		m := ordinary()[0]
		m.Kind, m.From, m.To = kind, 2, 1
		quiet("kind", m)
	}
}

// ordinary is a message of each kind that something would come of.
func ordinary() []api.Message {
	e := entries(one(0, "x"), "k")
	return []api.Message{
		{Kind: api.MPut, Op: 1, Entries: e},
		{Kind: api.MPutAck, Op: 1, For: 2, Key: "k", Entries: entries(known(api.Vector{9, 9}), "k")},
		{Kind: api.MHint, Op: 1, For: 2, Entries: e},
		{Kind: api.MHint, Op: 1, For: 1, Entries: e},
		{Kind: api.MGet, Op: 1, Key: "k"},
		{Kind: api.MGot, Op: 2, Entries: e},
		{Kind: api.MDigest},
		{Kind: api.MSync, Bucket: keys.Bucket("k"), Entries: e},
		{Kind: api.MPing, Members: []api.Member{{State: api.Dead}, {State: api.Dead}}},
		{Kind: api.MAck, Members: []api.Member{{State: api.Dead}, {State: api.Dead}}},
	}
}

// wrongMessages are some that may not be, each for one cause.
func wrongMessages() []api.Message {
	var out []api.Message
	long := strings.Repeat("k", api.MaxKey+1)
	for _, m := range ordinary() {
		for _, turn := range []func(m *api.Message){
			func(m *api.Message) { m.Op = -1 },
			func(m *api.Message) { m.Op = api.MaxCount + 1 },
			func(m *api.Message) { m.Key = long },
			func(m *api.Message) { m.For = 8 },
			func(m *api.Message) { m.For = -1 },
			func(m *api.Message) { m.Bucket = 4 },
			func(m *api.Message) { m.Bucket = -1 },
			func(m *api.Message) { m.Entries = entries(one(0, "x"), "k", long) },
			func(m *api.Message) { m.Entries = entries(one(0, "x"), "") },
			func(m *api.Message) { m.Entries = entries(known(api.Vector{}, val(0, 1, "x")), "k") },
			func(m *api.Message) { m.Entries = entries(known(api.Vector{-1}), "k") },
			func(m *api.Message) { m.Entries = make([]api.Entry, api.MaxKeys+1) },
			func(m *api.Message) { m.Digests = []api.Digest{{Key: ""}} },
			func(m *api.Message) { m.Digests = []api.Digest{{Key: "k", Dots: []api.Dot{{N: 1}}}} },
			func(m *api.Message) { m.Members = []api.Member{{State: 3}} },
			func(m *api.Message) { m.Members = []api.Member{{State: api.Dead, Inc: -1}} },
			func(m *api.Message) { m.Members = make([]api.Member, api.MaxNodes+1) },
		} {
			x := m
			if turn(&x); !mayBe(x) {
				out = append(out, x)
			}
		}
	}
	two := entries(one(0, "x"), "k", "l")
	return append(out,
		api.Message{Kind: api.MHint, For: 1},
		api.Message{Kind: api.MHint, For: 1, Entries: two},
		api.Message{Kind: api.MPutAck, Op: 1, For: 2, Key: "k", Entries: two},
		api.Message{Kind: api.MGot, Op: 2, Entries: two},
		api.Message{Kind: api.MGet},
	)
}

// P23.3: what a kind has not makes no difference.
func TestNotItsOwn(t *testing.T) {
	for _, m := range ordinary() {
		plain, strewn := open(t, config(3, 3), 1), open(t, config(3, 3), 1)
		x := m
		if x.Bucket == 0 && x.Kind != api.MDigest && x.Kind != api.MSync {
			x.Bucket = 99
		}
		if x.Kind != api.MPing && x.Kind != api.MAck {
			x.Members = make([]api.Member, 99)
		}
		if x.Kind == api.MGet || x.Kind == api.MDigest || x.Kind == api.MPing {
			x.Entries = make([]api.Entry, 999)
		}
		if x.Kind >= api.MGet {
			x.For = -3
		}
		for _, n := range []*Node{plain, strewn} {
			n.Put("k", api.Vector{}, nil, false)
			n.Get("k")
			n.Out()
		}
		want := receive(plain, 2, 1, m) + answers(plain) + all(plain)
		is(t, kinds[m.Kind], receive(strewn, 2, 1, x)+answers(strewn)+all(strewn), want)
	}
}

// P23.3: MPut: entries are joined; it is answered with the first's key and what is known of it then.
func TestReceivePut(t *testing.T) {
	n := open(t, config(3, 3), 1)
	x, y, z := one(0, "x"), one(2, "y"), known(api.Vector{2}, val(0, 2, "z"))
	for i, s := range []struct {
		op   int64
		l    []api.Entry
		sent string
		has  string
	}{
		{0, nil, "", ""},
		{4, nil, "", ""},
		{0, entries(x, "k"), "", "k(1 0.1=x)"},
		{7, entries(y, "k"), "PutAck 1>2 #7 for 1 k k(1,0,1 0.1=x 2.1=y)", "k(1,0,1 0.1=x 2.1=y)"},
		{8, entries(y, "k"), "PutAck 1>2 #8 for 1 k k(1,0,1 0.1=x 2.1=y)", "k(1,0,1 0.1=x 2.1=y)"},
		{9, entries(z, "l", "k"), "PutAck 1>2 #9 for 1 l l(2 0.2=z)", "k(2,0,1 0.2=z 2.1=y); l(2 0.2=z)"},
		{api.MaxCount, entries(x, "l", "l", "a"), fmt.Sprint("PutAck 1>2 #", int64(api.MaxCount), " for 1 l l(2 0.2=z)"), "a(1 0.1=x); k(2,0,1 0.2=z 2.1=y); l(2 0.2=z)"},
		{5, []api.Entry{{Key: "k", Sibs: known(api.Vector{3, 0, 1})}, {Key: "k", Sibs: one(1, "w")}}, "PutAck 1>2 #5 for 1 k k(3,1,1 1.1=w)", "a(1 0.1=x); k(3,1,1 1.1=w); l(2 0.2=z)"},
		{6, entries(api.Sibs{}, "new"), "PutAck 1>2 #6 for 1 new new()", "a(1 0.1=x); k(3,1,1 1.1=w); l(2 0.2=z); new()"},
	} {
		is(t, fmt.Sprint(i), receive(n, 2, 1, api.Message{Kind: api.MPut, Op: s.op, Entries: s.l}), s.sent)
		is(t, fmt.Sprint(i), has(n), s.has+" | ")
	}
	if n.Waiting() != 0 || n.Sent() != 0 {
		t.Error("an answer waits, or counts")
	}
}

// P23.3: MPut: what is refused is left out, wherever it stands, and nothing is answered then.
func TestReceivePutRefused(t *testing.T) {
	n := open(t, config(3, 3), 1)
	var l []api.Entry
	for i := range api.MaxKeys - 1 {
		l = append(l, api.Entry{Key: fmt.Sprint("key", i)})
	}
	is(t, "many", receive(n, 0, 1, api.Message{Kind: api.MPut, Op: 1, Entries: l}), "PutAck 1>0 #1 for 1 key0 key0()")
	x := one(0, "x")
	is(t, "one more, and another", receive(n, 0, 1, api.Message{Kind: api.MPut, Op: 2, Entries: entries(x, "k", "l", "key7")}), "")
	is(t, "another first", receive(n, 0, 1, api.Message{Kind: api.MPut, Op: 3, Entries: entries(x, "l", "key8")}), "")
	is(t, "another alone", receive(n, 0, 1, api.Message{Kind: api.MPut, Op: 4, Entries: entries(x, "l")}), "")
	is(t, "another alone, without Op", receive(n, 0, 1, api.Message{Kind: api.MPut, Entries: entries(x, "l")}), "")
	for key, want := range map[string]string{"k": "(1 0.1=x)", "l": "()", "key7": "(1 0.1=x)", "key8": "(1 0.1=x)", "key9": "()"} {
		s, ok := n.Store().Get(key)
		is(t, key, sibsText(s), want)
		if ok != (key != "l") {
			t.Error(key, ok)
		}
	}
	is(t, "those that are there", receive(n, 0, 1, api.Message{Kind: api.MPut, Op: 5, Entries: entries(x, "key8", "k")}), "PutAck 1>0 #5 for 1 key8 key8(1 0.1=x)")
}

// P23.3: MPut: a disk without room refuses an entry; one that changes nothing needs none.
func TestReceivePutRoom(t *testing.T) {
	c := config(3, 3)
	c.Disk = 60
	n := open(t, c, 1)
	x, big := one(0, "x"), one(0, strings.Repeat("x", 100))
	is(t, "small", receive(n, 0, 1, api.Message{Kind: api.MPut, Op: 1, Entries: entries(x, "k")}), "PutAck 1>0 #1 for 1 k k(1 0.1=x)")
	is(t, "big", receive(n, 0, 1, api.Message{Kind: api.MPut, Op: 2, Entries: entries(big, "l")}), "")
	is(t, "both", receive(n, 0, 1, api.Message{Kind: api.MPut, Op: 3, Entries: append(entries(big, "l"), entries(x, "k")...)}), "")
	is(t, "small", receive(n, 0, 1, api.Message{Kind: api.MPut, Op: 4, Entries: entries(x, "k")}), "PutAck 1>0 #4 for 1 k k(1 0.1=x)")
	is(t, "has", has(n), "k(1 0.1=x) | ")
}

// P23.3: MPut, MHint and MGet come to nodes that do not own the key, too.
func TestNoOwner(t *testing.T) {
	order := ring.New(4).Order("k")
	n := open(t, config(4, 2), order[3])
	self, x := order[3], one(0, "x")
	back := fmt.Sprint(self, ">", order[0])
	is(t, "put", receive(n, order[0], self, api.Message{Kind: api.MPut, Op: 1, Entries: entries(x, "k")}), "PutAck "+back+" #1 for "+fmt.Sprint(self)+" k k(1 0.1=x)")
	is(t, "get", receive(n, order[0], self, api.Message{Kind: api.MGet, Op: 2, Key: "k"}), "Got "+back+" #2 k(1 0.1=x)")
	is(t, "hint", receive(n, order[0], self, api.Message{Kind: api.MHint, Op: 3, For: order[2], Entries: entries(x, "k")}), fmt.Sprint("PutAck ", back, " #3 for ", order[2], " k k(1 0.1=x)"))
	is(t, "has", has(n), fmt.Sprint("k(1 0.1=x) | for ", order[2], " k(1 0.1=x)"))
	refused(t, n, "k", api.ErrOwner)
}

// P23.3: MPutAck: an answer that does not fit counts for nothing; one that does, once.
func TestReceivePutAck(t *testing.T) {
	n := open(t, config(3, 3), 1)
	n.Put("k", api.Vector{}, []byte("x"), false)
	n.Get("k")
	n.Out()
	s := one(1, "x")
	ack := func(op int64, who int, key string, l []api.Entry) string {
		return receive(n, 2, 1, api.Message{Kind: api.MPutAck, Op: op, For: who, Key: key, Entries: l}) + answers(n)
	}
	is(t, "without entry", ack(1, 2, "k", nil), "")
	is(t, "without key", ack(1, 2, "", entries(s, "k")), "")
	is(t, "without both", ack(1, 2, "", nil), "")
	is(t, "of another key", ack(1, 2, "l", entries(s, "l")), "")
	is(t, "of another key, with an entry of this", ack(1, 2, "l", entries(s, "k")), "")
	is(t, "of itself", ack(1, 1, "k", entries(s, "k")), "")
	is(t, "without Op", ack(0, 2, "k", entries(s, "k")), "")
	is(t, "of a read", ack(2, 2, "k", entries(s, "k")), "")
	is(t, "of none", ack(3, 2, "k", entries(s, "k")), "")
	is(t, "of none", ack(api.MaxCount, 2, "k", entries(s, "k")), "")
	is(t, "that knows nothing", ack(1, 2, "k", entries(api.Sibs{}, "k")), "")
	is(t, "that knows another", ack(1, 2, "k", entries(one(0, "x"), "k")), "")
	is(t, "that fits", ack(1, 2, "k", entries(s, "k")), "#1:0(0,1 1.1=x)")
	is(t, "again", ack(1, 2, "k", entries(s, "k")), "")
	is(t, "of another", ack(1, 0, "k", entries(s, "k")), "")
	// It is the message's key that is asked: its entry's Sibs are taken, whatever their key.
	n.Put("m", api.Vector{}, []byte("y"), false)
	n.Out()
	is(t, "of this key, with an entry of another", ack(3, 2, "m", entries(known(api.Vector{0, 1}, val(1, 1, "y")), "k")), "#3:0(0,1 1.1=y)")
	is(t, "all", all(n), "k(0,1 1.1=x); m(0,1 1.1=y) |  | A0; A0; A0 | 0 0 0 2")
}

// P23.3: MPutAck: who knows more than what was written knows it, too; the answer is what was written.
func TestAckKnowsMore(t *testing.T) {
	for i, z := range []struct {
		s    api.Sibs
		want bool
	}{
		{one(1, "x"), true},
		{known(api.Vector{3, 1}, val(0, 3, "y"), val(1, 1, "x")), true},
		{known(api.Vector{0, 1}), true},
		{known(api.Vector{0, 7, 2}, val(1, 7, "z")), true},
		{known(api.Vector{7, 0, 7}), false},
		{api.Sibs{}, false},
		{one(1, "another"), true}, // of one dot the first by its data is joined
		{one(1, "xyz"), false},    // and that is what was written
		{one(1, "!"), false},      // as one that is not dead is
	} {
		n := open(t, config(3, 3), 1)
		n.Put("k", api.Vector{}, []byte("x"), false)
		n.Receive(api.Message{Kind: api.MPutAck, From: 0, To: 1, Op: 1, For: 0, Key: "k", Entries: entries(z.s, "k")})
		if got := answers(n); (got != "") != z.want || z.want && got != "#1:0(0,1 1.1=x)" {
			t.Error(i, got)
		}
		// What another node knows is not taken from an answer.
		is(t, "has", has(n), "k(0,1 1.1=x) | ")
	}
}

// P23.3: MPutAck: a hint for the sender is gone, if the sender knows it; whose answer it is and of which operation makes no difference.
func TestUnhint(t *testing.T) {
	x := known(api.Vector{2}, val(0, 2, "x"))
	for i, z := range []struct {
		from int
		m    api.Message
		gone string
	}{
		{2, api.Message{Op: 0, For: 2, Key: "k", Entries: entries(x, "k")}, "2k"},
		{2, api.Message{Op: 9, For: 0, Key: "k", Entries: entries(x, "k")}, "2k"},
		{3, api.Message{Op: 0, For: 2, Key: "k", Entries: entries(x, "k")}, "3k"},
		{0, api.Message{Op: 0, For: 2, Key: "k", Entries: entries(x, "k")}, ""},
		{2, api.Message{For: 2, Key: "l", Entries: entries(known(api.Vector{2, 2}), "l")}, "2l"},
		{2, api.Message{For: 2, Key: "k", Entries: entries(known(api.Vector{1}, val(0, 1, "w")), "k")}, ""},
		{2, api.Message{For: 2, Key: "k", Entries: entries(api.Sibs{}, "k")}, ""},
		{2, api.Message{For: 2, Key: "k"}, ""},
		{2, api.Message{For: 2, Key: "", Entries: entries(x, "k")}, ""},
		{2, api.Message{For: 2, Key: "m", Entries: entries(x, "m")}, ""},
		// The message's key is asked, the entry's is not.
		{2, api.Message{For: 2, Key: "k", Entries: entries(x, "l")}, "2k"},
	} {
		n := open(t, config(4, 2), 1)
		for _, who := range []int{2, 3} {
			for _, key := range []string{"k", "l"} {
				receive(n, 0, 1, api.Message{Kind: api.MHint, For: who, Entries: entries(x, key)})
			}
		}
		m := z.m
		m.Kind = api.MPutAck
		is(t, "sent", receive(n, z.from, 1, m), "")
		var left []string
		for _, h := range []string{"2k", "2l", "3k", "3l"} {
			if h != z.gone {
				left = append(left, h)
			}
		}
		is(t, fmt.Sprint(i), texts(n.Store().Hints(), func(h api.Hint) string { return fmt.Sprint(h.For, h.Entry.Key) }), strings.Join(left, "; "))
	}
}

// P23.3: MHint for itself: as an MPut of it, but answered without an Op, too.
func TestReceiveHintOwn(t *testing.T) {
	n := open(t, config(3, 3), 1)
	hint := func(op int64, s api.Sibs, key string) string {
		return receive(n, 0, 1, api.Message{Kind: api.MHint, Op: op, For: 1, Entries: entries(s, key)})
	}
	is(t, "with Op", hint(3, one(0, "x"), "k"), "PutAck 1>0 #3 for 1 k k(1 0.1=x)")
	is(t, "without Op", hint(0, one(2, "y"), "k"), "PutAck 1>0 for 1 k k(1,0,1 0.1=x 2.1=y)")
	is(t, "again", hint(0, one(2, "y"), "k"), "PutAck 1>0 for 1 k k(1,0,1 0.1=x 2.1=y)")
	is(t, "has", has(n), "k(1,0,1 0.1=x 2.1=y) | ")
	var l []api.Entry
	for i := range api.MaxKeys - 1 {
		l = append(l, api.Entry{Key: fmt.Sprint("key", i)})
	}
	receive(n, 0, 1, api.Message{Kind: api.MPut, Entries: l})
	is(t, "refused", hint(4, one(0, "x"), "new"), "")
	is(t, "one that is there", hint(5, one(0, "x"), "key0"), "PutAck 1>0 #5 for 1 key0 key0(1 0.1=x)")
}

// P23.3: MHint for another: it is kept, joined with what was; the answer is what is kept, not what it knows itself.
func TestReceiveHintOther(t *testing.T) {
	n := open(t, config(4, 2), 1)
	receive(n, 0, 1, api.Message{Kind: api.MPut, Entries: entries(one(1, "own"), "k")})
	hint := func(op int64, who int, s api.Sibs, key string) string {
		return receive(n, 3, 1, api.Message{Kind: api.MHint, Op: op, For: who, Entries: entries(s, key)})
	}
	is(t, "first", hint(3, 2, one(0, "x"), "k"), "PutAck 1>3 #3 for 2 k k(1 0.1=x)")
	is(t, "joined", hint(0, 2, one(2, "y"), "k"), "PutAck 1>3 for 2 k k(1,0,1 0.1=x 2.1=y)")
	is(t, "again", hint(4, 2, one(2, "y"), "k"), "PutAck 1>3 #4 for 2 k k(1,0,1 0.1=x 2.1=y)")
	is(t, "for the first node", hint(5, 0, one(2, "y"), "k"), "PutAck 1>3 #5 for 0 k k(0,0,1 2.1=y)")
	is(t, "for the sender", hint(6, 3, one(2, "y"), "l"), "PutAck 1>3 #6 for 3 l l(0,0,1 2.1=y)")
	is(t, "another key", hint(7, 2, one(0, "z"), "a"), "PutAck 1>3 #7 for 2 a a(1 0.1=z)")
	is(t, "has", has(n), "k(0,1 1.1=own) | for 0 k(0,0,1 2.1=y); for 2 a(1 0.1=z); for 2 k(1,0,1 0.1=x 2.1=y); for 3 l(0,0,1 2.1=y)")
	if n.Waiting() != 0 || n.Sent() != 0 {
		t.Error("an answer waits, or counts")
	}
}

// P23.3: MHint: MaxHints are kept, one more is refused: no answer; one that is joined is none more.
func TestReceiveHintFull(t *testing.T) {
	n := open(t, config(4, 2), 1)
	for i := range api.MaxHints {
		key, who := fmt.Sprint("key", i), []int{0, 2, 3}[i%3]
		is(t, key, receive(n, 0, 1, api.Message{Kind: api.MHint, Op: 1, For: who, Entries: entries(one(0, "x"), key)}),
			fmt.Sprint("PutAck 1>0 #1 for ", who, " ", key, " ", key, "(1 0.1=x)"))
	}
	was := all(n)
	is(t, "one more", receive(n, 0, 1, api.Message{Kind: api.MHint, Op: 1, For: 2, Entries: entries(one(0, "x"), "k")}), "")
	is(t, "of another node", receive(n, 0, 1, api.Message{Kind: api.MHint, Op: 1, For: 2, Entries: entries(one(0, "x"), "key0")}), "")
	is(t, "all", all(n), was)
	is(t, "joined", receive(n, 0, 1, api.Message{Kind: api.MHint, Op: 1, For: 0, Entries: entries(one(2, "y"), "key0")}), "PutAck 1>0 #1 for 0 key0 key0(1,0,1 0.1=x 2.1=y)")
	is(t, "for itself", receive(n, 0, 1, api.Message{Kind: api.MHint, Op: 1, For: 1, Entries: entries(one(2, "y"), "k")}), "PutAck 1>0 #1 for 1 k k(0,0,1 2.1=y)")
}

// P23.3: MHint: a disk without room keeps none: no answer.
func TestReceiveHintRoom(t *testing.T) {
	c := config(3, 3)
	c.Disk = 60
	n := open(t, c, 1)
	big := entries(one(0, strings.Repeat("x", 100)), "k")
	is(t, "for another", receive(n, 0, 1, api.Message{Kind: api.MHint, Op: 1, For: 2, Entries: big}), "")
	is(t, "for itself", receive(n, 0, 1, api.Message{Kind: api.MHint, Op: 1, For: 1, Entries: big}), "")
	is(t, "has", has(n), " | ")
}

// P23.3: MHint: what is there is refused, too, if the disk has no room for what it would be then: no answer.
func TestReceiveHintRoomForMore(t *testing.T) {
	for _, who := range []int{1, 2} {
		c := config(3, 3)
		c.Disk = 60
		n := open(t, c, 1)
		hint := func(op int64, s api.Sibs) string {
			return receive(n, 0, 1, api.Message{Kind: api.MHint, Op: op, For: who, Entries: entries(s, "k")})
		}
		is(t, "little", hint(1, one(0, "x")), fmt.Sprint("PutAck 1>0 #1 for ", who, " k k(1 0.1=x)"))
		was := all(n)
		is(t, "more", hint(2, one(2, strings.Repeat("y", 100))), "")
		is(t, "all", all(n), was)
		is(t, "the same", hint(3, one(0, "x")), fmt.Sprint("PutAck 1>0 #3 for ", who, " k k(1 0.1=x)"))
	}
}

// P23.3: MGet: what is known, or nothing; with Op, whatever it is.
func TestReceiveGet(t *testing.T) {
	n := open(t, config(3, 3), 1)
	get := func(op int64, key string) string {
		return receive(n, 2, 1, api.Message{Kind: api.MGet, Op: op, Key: key})
	}
	is(t, "nothing", get(5, "k"), "Got 1>2 #5")
	receive(n, 0, 1, api.Message{Kind: api.MPut, Entries: append(entries(one(0, "x"), "k"), api.Entry{Key: "empty"})})
	receive(n, 0, 1, api.Message{Kind: api.MHint, For: 2, Entries: entries(one(0, "x"), "l")})
	is(t, "something", get(6, "k"), "Got 1>2 #6 k(1 0.1=x)")
	is(t, "without Op", get(0, "k"), "Got 1>2 k(1 0.1=x)")
	is(t, "the greatest Op", get(api.MaxCount, "k"), fmt.Sprint("Got 1>2 #", int64(api.MaxCount), " k(1 0.1=x)"))
	is(t, "a key of which nothing was seen", get(7, "empty"), "Got 1>2 #7 empty()")
	is(t, "what is kept for another", get(8, "l"), "Got 1>2 #8")
	is(t, "a long key", get(8, strings.Repeat("l", api.MaxKey)), "Got 1>2 #8")
	is(t, "no key", get(9, ""), "")
	is(t, "too long a key", get(9, strings.Repeat("l", api.MaxKey+1)), "")
	if n.Waiting() != 0 || n.Sent() != 0 {
		t.Error("an answer waits, or counts")
	}
}

// got has n, the node 1, receive an answer to a read.
func got(n *Node, from int, op int64, l []api.Entry) string {
	return receive(n, from, 1, api.Message{Kind: api.MGot, Op: op, Entries: l}) + answers(n)
}

// P23.3: MGot: an answer that does not fit counts for nothing.
func TestReceiveGot(t *testing.T) {
	n := open(t, config(3, 3), 1)
	n.Get("k")
	n.Put("k", api.Vector{}, []byte("x"), false)
	n.Out()
	s := entries(one(0, "y"), "k")
	is(t, "of another key", got(n, 0, 1, entries(one(0, "y"), "l")), "")
	is(t, "without Op", got(n, 0, 0, s), "")
	is(t, "of a write", got(n, 0, 2, s), "")
	is(t, "of a write, without entry", got(n, 0, 2, nil), "")
	is(t, "of none", got(n, 0, 3, s), "")
	is(t, "of none, without entry", got(n, 0, 3, nil), "")
	is(t, "has", has(n), "k(0,1 1.1=x) | ")
	// The read began ahead of the Put: its own answer was nothing then.
	is(t, "that fits", got(n, 0, 1, s), "#1:0(1 0.1=y)")
	is(t, "again", got(n, 0, 1, s), "")
	is(t, "of another", got(n, 2, 1, s), "")
	is(t, "has", has(n), "k(1,1 0.1=y 1.1=x) | ")
}

// P23.3: MGot: what was joined is brought to all whose answer is not the same: with R of all owners.
func TestRepair(t *testing.T) {
	x, y := one(0, "x"), one(2, "y")
	both := known(api.Vector{1, 0, 1}, x.Values[0], y.Values[0])
	for _, z := range []struct {
		what             string
		own, first, last []api.Entry
		sent, answer     string
		has              string
	}{
		{"nothing anywhere", nil, nil, nil, "", "()", ""},
		{"all alike", entries(x, "k"), entries(x, "k"), entries(x, "k"), "", "(1 0.1=x)", "k(1 0.1=x)"},
		{"its own is behind", nil, entries(x, "k"), entries(x, "k"), "", "(1 0.1=x)", "k(1 0.1=x)"},
		{"the first is behind", entries(x, "k"), nil, entries(x, "k"), "Put 1>0 k(1 0.1=x)", "(1 0.1=x)", "k(1 0.1=x)"},
		{"the last is behind", entries(x, "k"), entries(x, "k"), nil, "Put 1>2 k(1 0.1=x)", "(1 0.1=x)", "k(1 0.1=x)"},
		{"both are behind", entries(x, "k"), nil, nil, "Put 1>0 k(1 0.1=x); Put 1>2 k(1 0.1=x)", "(1 0.1=x)", "k(1 0.1=x)"},
		{"the first alone knows", nil, entries(x, "k"), nil, "Put 1>2 k(1 0.1=x)", "(1 0.1=x)", "k(1 0.1=x)"},
		{"the last alone knows", nil, nil, entries(x, "k"), "Put 1>0 k(1 0.1=x)", "(1 0.1=x)", "k(1 0.1=x)"},
		{"each knows another", entries(known(api.Vector{0, 4}), "k"), entries(x, "k"), entries(y, "k"), "Put 1>0 k(1,4,1 0.1=x 2.1=y); Put 1>2 k(1,4,1 0.1=x 2.1=y)", "(1,4,1 0.1=x 2.1=y)", "k(1,4,1 0.1=x 2.1=y)"},
		{"the last knows all", entries(y, "k"), entries(x, "k"), entries(both, "k"), "Put 1>0 k(1,0,1 0.1=x 2.1=y)", "(1,0,1 0.1=x 2.1=y)", "k(1,0,1 0.1=x 2.1=y)"},
		{"itself knows all", entries(both, "k"), entries(x, "k"), entries(both, "k"), "Put 1>0 k(1,0,1 0.1=x 2.1=y)", "(1,0,1 0.1=x 2.1=y)", "k(1,0,1 0.1=x 2.1=y)"},
		{"it was replaced", entries(x, "k"), entries(known(api.Vector{2}), "k"), nil, "Put 1>2 k(2)", "(2)", "k(2)"},
		{"an empty entry", nil, entries(api.Sibs{}, "k"), nil, "", "()", ""},
	} {
		c := config(3, 3)
		c.R = 3
		n := open(t, c, 1)
		receive(n, 0, 1, api.Message{Kind: api.MPut, Entries: z.own})
		n.Get("k")
		n.Out()
		is(t, z.what, got(n, 0, 1, z.first), "")
		is(t, z.what, got(n, 2, 1, z.last), z.sent+"#1:0"+z.answer)
		is(t, z.what, has(n), z.has+" | ")
		if want := int64(len(strings.Split(z.sent, ";"))); z.sent != "" && n.Sent() != want || z.sent == "" && n.Sent() != 0 {
			t.Error(z.what, n.Sent())
		}
	}
}

// P23.3: MGot: a node that has answered counts once, whatever it tells then.
func TestGotTwice(t *testing.T) {
	c := config(3, 3)
	c.R = 3
	n := open(t, c, 1)
	n.Get("k")
	n.Out()
	is(t, "first", got(n, 2, 1, entries(one(0, "x"), "k")), "")
	is(t, "again", got(n, 2, 1, entries(one(0, "x"), "k")), "")
	is(t, "with more", got(n, 2, 1, entries(known(api.Vector{9}), "k")), "")
	is(t, "the other", got(n, 0, 1, nil), "Put 1>0 k(1 0.1=x)#1:0(1 0.1=x)")
	is(t, "has", has(n), "k(1 0.1=x) | ")
}

// P23.3: MGot: only nodes that had answered when it was done are brought anything: the third owner is not.
func TestRepairAnsweredOnly(t *testing.T) {
	n := open(t, config(3, 3), 1)
	receive(n, 0, 1, api.Message{Kind: api.MPut, Entries: entries(one(0, "x"), "k")})
	n.Get("k")
	n.Out()
	is(t, "done", got(n, 2, 1, nil), "Put 1>2 k(1 0.1=x)#1:0(1 0.1=x)")
	is(t, "late", got(n, 0, 1, nil), "")
}

// P23.3: MGot: what its own store refuses is brought to the others all the same.
func TestRepairRefused(t *testing.T) {
	c := config(3, 3)
	c.Disk = 30
	c.R = 3
	n := open(t, c, 1)
	big := strings.Repeat("x", 100)
	n.Get("k")
	n.Out()
	got(n, 0, 1, entries(one(0, big), "k"))
	is(t, "sent", got(n, 2, 1, nil), "Put 1>2 k(1 0.1="+big+")#1:0(1 0.1="+big+")")
	is(t, "has", has(n), " | ")
}

// own are keys of one bucket: that both own, that the node 1 owns alone, that the other owns alone, that neither owns.
func own(t *testing.T, b int) (both, mine, other, none string) {
	t.Helper()
	r := ring.New(4)
	pick := func(one, two bool) string {
		return find(t, func(key string) bool {
			return keys.Bucket(key) == b && r.Owns(1, key, 2) == one && r.Owns(2, key, 2) == two
		})
	}
	return pick(true, true), pick(true, false), pick(false, true), pick(false, false)
}

// P23.3: MDigest: MSync of the bucket, of what both own: what the other lacks, and digests of all.
func TestReceiveDigest(t *testing.T) {
	for b := range api.Buckets {
		both, mine, other, none := own(t, b)
		elsewhere := find(t, func(key string) bool {
			return keys.Bucket(key) != b && slices.Contains([]int{1, 2}, ring.New(4).Order(key)[0]) && slices.Contains([]int{1, 2}, ring.New(4).Order(key)[1])
		})
		n := open(t, config(4, 2), 1)
		receive(n, 0, 1, api.Message{Kind: api.MPut, Entries: entries(one(3, "x"), both, mine, other, none, elsewhere)})
		receive(n, 0, 1, api.Message{Kind: api.MHint, For: 2, Entries: entries(one(0, "z"), both)})
		ask := func(l ...api.Digest) string {
			return receive(n, 2, 1, api.Message{Kind: api.MDigest, Bucket: b, Digests: l})
		}
		d := api.Digest{Key: both, Seen: api.Vector{3: 1}, Dots: []api.Dot{{Node: 3, N: 1}}}
		head, entry, tail := fmt.Sprint("Sync 1>2 b", b), " "+both+"(0,0,0,1 3.1=x)", " "+both+"[0,0,0,1 3.1]"
		is(t, "who has nothing", ask(), head+entry+tail)
		is(t, "who has the same", ask(d), head+tail)
		is(t, "who has seen it, but no value", ask(api.Digest{Key: both, Seen: d.Seen}), head+tail)
		is(t, "who has seen more", ask(api.Digest{Key: both, Seen: api.Vector{9, 9, 9, 9}}), head+tail)
		is(t, "who has seen other things", ask(api.Digest{Key: both, Seen: api.Vector{9, 9, 9}}), head+entry+tail)
		is(t, "who has another key", ask(api.Digest{Key: mine, Seen: d.Seen, Dots: d.Dots}), head+entry+tail)
		is(t, "who has two of one key", ask(api.Digest{Key: both}, d), head+entry+tail)
		// Nothing is learned from digests.
		is(t, "keys", fmt.Sprint(len(n.Store().All())), "5")
		// Of node 0, which owns none of these: nothing but the head.
		if !ring.New(4).Owns(0, mine, 2) {
			is(t, "another", receive(n, 0, 1, api.Message{Kind: api.MDigest, Bucket: b}), fmt.Sprint("Sync 1>0 b", b))
		}
	}
}

// P23.3: MSync: what both own is joined; what the other lacks is brought back, at least something.
func TestReceiveSync(t *testing.T) {
	for b := range api.Buckets {
		both, mine, other, none := own(t, b)
		sync := func(n *Node, l []api.Entry, d ...api.Digest) string {
			return receive(n, 2, 1, api.Message{Kind: api.MSync, Bucket: b, Entries: l, Digests: d})
		}
		n := open(t, config(4, 2), 1)
		is(t, "nothing", sync(n, nil), "")
		x := api.Digest{Key: both, Seen: api.Vector{1}, Dots: []api.Dot{{N: 1}}}
		is(t, "all keys", sync(n, entries(one(0, "x"), both, mine, other, none), x), "")
		is(t, "has", has(n), both+"(1 0.1=x) | ")
		receive(n, 0, 1, api.Message{Kind: api.MPut, Entries: entries(one(3, "y"), both, mine, other, none)})
		want := fmt.Sprintf("Put 1>2 %s(1,0,0,1 0.1=x 3.1=y)", both)
		is(t, "what it lacks", sync(n, nil, x), want)
		is(t, "who has nothing", sync(n, nil), want)
		is(t, "who has the same", sync(n, nil, api.Digest{Key: both, Seen: api.Vector{1, 0, 0, 1}, Dots: []api.Dot{{N: 1}, {Node: 3, N: 1}}}), "")
		is(t, "who replaced something", sync(n, entries(known(api.Vector{1, 1, 0, 1}), both), api.Digest{Key: both, Seen: api.Vector{1, 1, 0, 1}}), "")
		is(t, "has", fmt.Sprint(strings.Contains(has(n), both+"(1,1,0,1)")), "true")
		// What was joined just now is compared, too.
		is(t, "joined first", sync(n, entries(known(api.Vector{1, 1, 7, 1}), both)), "Put 1>2 "+both+"(1,1,7,1)")
	}
}

// P23.3: MSync: entries of other buckets are joined, too; what is refused is left out.
func TestSyncElsewhere(t *testing.T) {
	n := open(t, config(2, 2), 1)
	var l []api.Entry
	for i := range api.MaxKeys - 1 {
		l = append(l, api.Entry{Key: fmt.Sprint("key", i)})
	}
	receive(n, 0, 1, api.Message{Kind: api.MPut, Entries: l})
	other := (keys.Bucket("aa") + 1) % api.Buckets
	receive(n, 0, 1, api.Message{Kind: api.MSync, Bucket: other, Entries: entries(one(0, "x"), "aa", "bb", "key7")})
	for key, want := range map[string]bool{"aa": true, "bb": false, "key7": true} {
		if s, ok := n.Store().Get(key); ok != want || want && sibsText(s) != "(1 0.1=x)" {
			t.Error(key, ok, sibsText(s))
		}
	}
}

// big is entries of one bucket whose sizes sum up to so much: five, all but the last of them of one size.
func big(t *testing.T, sum int) []api.Entry {
	t.Helper()
	var out []api.Entry
	for i := range 5 {
		s := known(api.Vector{api.MaxValues})
		for k := range int64(api.MaxValues) {
			s.Values = append(s.Values, val(0, k+1, strings.Repeat("x", 100)))
		}
		e := api.Entry{Key: inBucket(t, fmt.Sprint("key", i, "-"), 2), Sibs: s}
		if i == 4 {
			rest := sum
			for _, o := range out {
				rest -= digest.Size(o)
			}
			for k := 0; digest.Size(e) > rest && k < api.MaxValues; k++ {
				e.Sibs.Values[k].Data = e.Sibs.Values[k].Data[:max(1, 100-(digest.Size(e)-rest))]
			}
			if digest.Size(e) != rest {
				t.Fatal("no such size", digest.Size(e), rest)
			}
		}
		out = append(out, e)
	}
	return out
}

// P23.3: what one message brings in the background is at most 8000 bytes: just so much goes, one byte more does not.
func TestMostBytes(t *testing.T) {
	for sum, want := range map[int]int{7999: 5, 8000: 5, 8001: 4} {
		l := big(t, sum)
		n := open(t, config(2, 2), 1)
		for _, e := range l {
			n.Receive(api.Message{Kind: api.MPut, From: 0, To: 1, Entries: []api.Entry{e}})
		}
		for _, kind := range []int{api.MDigest, api.MSync} {
			n.Receive(api.Message{Kind: kind, From: 0, To: 1, Bucket: 2})
			out := n.Out()
			if len(out) != 1 || texts(out[0].Entries, entryText) != texts(l[:want], entryText) {
				t.Fatal(sum, kinds[kind], len(out), len(out[0].Entries))
			}
			if kind == api.MDigest && len(out[0].Digests) != 5 {
				t.Error(sum, "digests", len(out[0].Digests))
			}
		}
	}
}

// P23.3: MPing is answered with all that is held, behind what was told; MAck is not. Either shows that its sender is there.
func TestReceiveMembers(t *testing.T) {
	n := open(t, config(3, 3), 1)
	tell := func(kind int, l ...api.Member) string {
		return receive(n, 2, 1, api.Message{Kind: kind, Members: l})
	}
	is(t, "nothing", tell(api.MPing), "Ack 1>2 A0 A0 A0")
	is(t, "news", tell(api.MPing, api.Member{State: api.Suspect}, api.Member{}, api.Member{Inc: 4}), "Ack 1>2 S0 A0 A4")
	is(t, "itself suspected", tell(api.MPing, api.Member{}, api.Member{State: api.Suspect, Inc: 2}), "Ack 1>2 S0 A3 A4")
	is(t, "itself dead", tell(api.MAck, api.Member{Inc: 1}, api.Member{State: api.Dead, Inc: 3}), "")
	is(t, "members", members(n), "A1; A4; A4")
	is(t, "the sender dead", tell(api.MAck, api.Member{}, api.Member{}, api.Member{State: api.Dead, Inc: 4}), "")
	is(t, "members", members(n), "A1; A4; D4")
	is(t, "more than there are", tell(api.MPing, api.Member{}, api.Member{}, api.Member{Inc: 5}, api.Member{State: api.Dead}), "Ack 1>2 A1 A4 A5")
	if n.Waiting() != 0 || n.Sent() != 0 {
		t.Error("an answer waits, or counts")
	}
}

// openLocal is what a store over a disk has, as has tells it.
func openLocal(d *disk.Disk) (string, api.Errno) {
	s, err := local.Open(d)
	if err != api.OK {
		return "", err
	}
	return texts(s.All(), entryText) + " | " + texts(s.Hints(), hintText), err
}

// mayBe is message.May of m between two nodes.
func mayBe(m api.Message) bool {
	m.From, m.To = 2, 1
	return message.May(m)
}
