package node

import (
	"cmp"
	"fmt"
	"math/rand"
	"slices"
	"testing"

	"tattler/api"
	"tattler/digest"
	"tattler/disk"
	"tattler/keys"
	"tattler/message"
	"tattler/plan"
	"tattler/ring"
	"tattler/sibs"
	"tattler/view"
)

// model is a node by the chapter's words: with a map for a store, and rows for all that waits. It has room for all.
type model struct {
	id       int
	c        api.Config
	order    func(key string) []int
	known    map[string]api.Sibs
	kept     map[place]api.Sibs
	held     *view.View
	tokens   int
	waiting  []weighed
	ops      []*underWay
	last     int64
	out      []api.Message
	answered []api.Answer
	pumped   int64
	ticks    int64
}

// place is a node and a key.
type place struct {
	node int
	key  string
}

// weighed is a message that waits.
type weighed struct {
	m      api.Message
	weight int
}

// underWay is an operation.
type underWay struct {
	op   int64
	read bool
	need int
	key  string
	s    api.Sibs
	who  map[int]api.Sibs
	age  int
}

// newModel is a node of a life that begins now, with what lasts.
func newModel(c api.Config, id int, known map[string]api.Sibs, kept map[place]api.Sibs) *model {
	return &model{id: id, c: c, order: ring.New(c.Nodes).Order, known: known, kept: kept, held: view.New(c.Nodes, id), tokens: c.Burst}
}

func (o *model) owners(key string) []int { return o.order(key)[:o.c.Owners] }

func (o *model) both(other int, key string) bool {
	return slices.Contains(o.owners(key), o.id) && slices.Contains(o.owners(key), other)
}

func (o *model) send(m api.Message) {
	if m.To != o.id {
		m.From = o.id
		o.out = append(o.out, m)
	}
}

func (o *model) queue(urgency int, m api.Message) {
	if m.To != o.id && len(o.waiting) < o.c.Queue {
		m.From = o.id
		o.waiting = append(o.waiting, weighed{m, 4 * urgency})
	}
}

func (o *model) pump() {
	for len(o.waiting) > 0 && o.tokens > 0 {
		at := 0
		for i, w := range o.waiting {
			if w.weight > o.waiting[at].weight {
				at = i
			}
		}
		o.out = append(o.out, o.waiting[at].m)
		o.waiting = slices.Delete(o.waiting, at, at+1)
		o.tokens--
		o.pumped++
	}
}

func (o *model) join(key string, s api.Sibs) api.Entry {
	o.known[key] = sibs.Join(o.known[key], s)
	return api.Entry{Key: key, Sibs: o.known[key]}
}

func (o *model) may(key string) api.Errno {
	if key == "" || len(key) > api.MaxKey {
		return api.ErrArg
	}
	if !slices.Contains(o.owners(key), o.id) {
		return api.ErrOwner
	}
	if len(o.ops) >= api.MaxOps {
		return api.ErrFull
	}
	return api.OK
}

func (o *model) begin(read bool, need int, key string, s api.Sibs) int64 {
	o.last++
	o.ops = append(o.ops, &underWay{op: o.last, read: read, need: need, key: key, s: s, who: map[int]api.Sibs{o.id: s}})
	o.done(o.last)
	return o.last
}

// done gives an operation that has enough answers its answer.
func (o *model) done(op int64) bool {
	at := slices.IndexFunc(o.ops, func(u *underWay) bool { return u.op == op })
	if u := o.ops[at]; len(u.who) >= u.need {
		o.answered = append(o.answered, api.Answer{Op: op, Sibs: u.s})
		o.ops = slices.Delete(o.ops, at, at+1)
		return true
	}
	return false
}

func (o *model) find(op int64) *underWay {
	for _, u := range o.ops {
		if u.op == op {
			return u
		}
	}
	return nil
}

func (o *model) put(key string, seen api.Vector, data []byte, dead bool) (int64, api.Errno) {
	if err := o.may(key); err != api.OK {
		return 0, err
	}
	s, err := sibs.Put(o.known[key], seen, o.id, data, dead)
	if err != api.OK {
		return 0, err
	}
	o.known[key] = s
	op := o.begin(false, o.c.W, key, s)
	taken := map[int]bool{}
	for _, owner := range o.owners(key) {
		m := api.Message{Kind: api.MPut, To: owner, Op: op, Entries: []api.Entry{{Key: key, Sibs: s}}}
		if owner != o.id && o.held.State(owner) == api.Dead {
			for _, other := range o.order(key)[o.c.Owners:] {
				if o.held.State(other) != api.Dead && other != o.id && !taken[other] {
					taken[other] = true
					m.Kind, m.To, m.For = api.MHint, other, owner
					break
				}
			}
		}
		o.send(m)
	}
	return op, api.OK
}

func (o *model) get(key string) (int64, api.Errno) {
	if err := o.may(key); err != api.OK {
		return 0, err
	}
	op := o.begin(true, o.c.R, key, o.known[key])
	for _, owner := range o.owners(key) {
		o.send(api.Message{Kind: api.MGet, To: owner, Op: op, Key: key})
	}
	return op, api.OK
}

// bucket is the entries of a bucket that it and the other own; of the other -1, all.
func (o *model) bucket(b, other int) []api.Entry {
	var out []api.Entry
	for key, s := range o.known {
		if keys.Bucket(key) == b && (other < 0 || o.both(other, key)) {
			out = append(out, api.Entry{Key: key, Sibs: s})
		}
	}
	slices.SortFunc(out, func(x, y api.Entry) int { return cmp.Compare(x.Key, y.Key) })
	return out
}

func (o *model) hints() []api.Hint {
	var out []api.Hint
	for p, s := range o.kept {
		out = append(out, api.Hint{For: p.node, Entry: api.Entry{Key: p.key, Sibs: s}})
	}
	slices.SortFunc(out, func(x, y api.Hint) int {
		return cmp.Or(cmp.Compare(x.For, y.For), cmp.Compare(x.Entry.Key, y.Entry.Key))
	})
	return out
}

func (o *model) receive(m api.Message) {
	if !message.May(m) || m.To != o.id || m.From == o.id || m.From >= o.c.Nodes {
		return
	}
	back := api.Message{To: m.From, Op: m.Op}
	switch m.Kind {
	case api.MPut:
		for _, e := range m.Entries {
			o.join(e.Key, e.Sibs)
		}
		if m.Op > 0 && len(m.Entries) > 0 {
			key := m.Entries[0].Key
			back.Kind, back.For, back.Key, back.Entries = api.MPutAck, o.id, key, []api.Entry{{Key: key, Sibs: o.known[key]}}
			o.send(back)
		}
	case api.MPutAck:
		o.receiveAck(m)
	case api.MHint:
		e := m.Entries[0]
		back.Kind, back.For, back.Key = api.MPutAck, m.For, e.Key
		if m.For == o.id {
			back.Entries = []api.Entry{o.join(e.Key, e.Sibs)}
		} else {
			p := place{m.For, e.Key}
			o.kept[p] = sibs.Join(o.kept[p], e.Sibs)
			back.Entries = []api.Entry{{Key: e.Key, Sibs: o.kept[p]}}
		}
		o.send(back)
	case api.MGet:
		back.Kind = api.MGot
		if s, ok := o.known[m.Key]; ok {
			back.Entries = []api.Entry{{Key: m.Key, Sibs: s}}
		}
		o.send(back)
	case api.MGot:
		o.receiveGot(m)
	case api.MDigest, api.MSync:
		o.receiveBucket(m)
	case api.MPing, api.MAck:
		o.held.Join(m.Members)
		o.held.Heard(m.From)
		if m.Kind == api.MPing {
			o.send(api.Message{Kind: api.MAck, To: m.From, Members: o.held.All()})
		}
	}
	o.pump()
}

func (o *model) receiveAck(m api.Message) {
	if m.Key == "" || len(m.Entries) == 0 {
		return
	}
	s, p := m.Entries[0].Sibs, place{m.From, m.Key}
	if kept, ok := o.kept[p]; ok && sibs.Leq(kept, s) {
		delete(o.kept, p)
	}
	if u := o.find(m.Op); m.Op > 0 && u != nil && !u.read && u.key == m.Key && sibs.Leq(u.s, s) {
		if _, twice := u.who[m.For]; !twice {
			u.who[m.For] = s
			o.done(u.op)
		}
	}
}

func (o *model) receiveGot(m api.Message) {
	u := o.find(m.Op)
	if u == nil || !u.read || len(m.Entries) > 0 && m.Entries[0].Key != u.key {
		return
	}
	if _, twice := u.who[m.From]; twice {
		return
	}
	var s api.Sibs
	if len(m.Entries) > 0 {
		s = m.Entries[0].Sibs
	}
	u.who[m.From], u.s = s, sibs.Join(u.s, s)
	if !o.done(u.op) {
		return
	}
	for node := range o.c.Nodes {
		told, ok := u.who[node]
		if !ok || sibs.Same(told, u.s) {
			continue
		}
		if node == o.id {
			o.join(u.key, u.s)
		}
		o.queue(2, api.Message{Kind: api.MPut, To: node, Entries: []api.Entry{{Key: u.key, Sibs: u.s}}})
	}
}

func (o *model) receiveBucket(m api.Message) {
	if m.Kind == api.MDigest {
		l := o.bucket(m.Bucket, m.From)
		o.queue(1, api.Message{Kind: api.MSync, To: m.From, Bucket: m.Bucket, Entries: digest.Send(l, m.Digests, 8000), Digests: digest.Of(l)})
		return
	}
	for _, e := range m.Entries {
		if o.both(m.From, e.Key) {
			o.join(e.Key, e.Sibs)
		}
	}
	if l := digest.Send(o.bucket(m.Bucket, m.From), m.Digests, 8000); len(l) > 0 {
		o.queue(1, api.Message{Kind: api.MPut, To: m.From, Entries: l})
	}
}

func (o *model) tick() {
	for _, u := range slices.Clone(o.ops) {
		if u.age++; u.age >= o.c.Wait {
			o.answered = append(o.answered, api.Answer{Op: u.op, Err: api.ErrTimeout})
			o.ops = slices.DeleteFunc(o.ops, func(x *underWay) bool { return x == u })
		}
	}
	o.held.Tick()
	for i := range o.waiting {
		o.waiting[i].weight++
	}
	o.tokens = min(o.tokens+o.c.Rate, o.c.Burst)
	b := int(o.ticks % api.Buckets)
	if o.c.Nodes > 1 {
		b = plan.Bucket(o.c.Nodes, o.ticks)
		o.background(plan.Peer(o.c.Nodes, o.id, o.ticks), b)
	}
	for _, e := range o.bucket(b, -1) {
		if s := sibs.Reap(e.Sibs); len(s.Values) != len(e.Sibs.Values) {
			o.known[e.Key] = s
			break
		}
	}
	o.ticks++
	o.pump()
}

func (o *model) background(p, b int) {
	if o.held.Missed(p) >= 2 {
		o.held.Suspect(p)
	}
	o.held.Asked(p)
	o.queue(3, api.Message{Kind: api.MPing, To: p, Members: o.held.All()})
	o.queue(0, api.Message{Kind: api.MDigest, To: p, Bucket: b, Digests: digest.Of(o.bucket(b, p))})
	for _, h := range o.hints() {
		if o.held.State(h.For) != api.Dead {
			o.queue(2, api.Message{Kind: api.MHint, To: h.For, For: h.For, Entries: []api.Entry{h.Entry}})
			break
		}
	}
}

// all is what all tells of a node, but for Records.
func (o *model) all() string {
	var l []api.Entry
	for b := range api.Buckets {
		l = append(l, o.bucket(b, -1)...)
	}
	slices.SortFunc(l, func(x, y api.Entry) int { return cmp.Compare(x.Key, y.Key) })
	return fmt.Sprint(texts(l, entryText), " | ", texts(o.hints(), hintText), " | ", texts(o.held.All(), memberText), " | ", len(o.waiting), " ", o.pumped, " ", o.ticks)
}

// run is some nodes, their models, and messages under way.
type run struct {
	t      *testing.T
	r      *rand.Rand
	c      api.Config
	disks  []*disk.Disk
	nodes  []*Node
	models []*model
	net    []api.Message
	keys   []string
	// written is what stands behind a Put's number in a node's life; promised is what was answered to Puts.
	promised []api.Entry
	wrote    map[place]string
	// least is, of each node, the least of what was pumped less Rate times Ticks at any moment.
	least []int64
	told  map[api.Errno]int
}

// newRun is a run of a random config.
func newRun(t *testing.T, r *rand.Rand) *run {
	nodes := 1 + r.Intn(6)
	owners := 1 + r.Intn(nodes)
	c := api.Config{Nodes: nodes, Owners: owners, R: 1 + r.Intn(owners), W: 1 + r.Intn(owners), Wait: 1 + r.Intn(8), Queue: 1 + r.Intn(8), Rate: 1 + r.Intn(4), Burst: 1 + r.Intn(5), Disk: api.MaxFile}
	if r.Intn(2) == 0 {
		c.Queue, c.Rate, c.Burst = 50, 9, 20
	}
	x := &run{t: t, r: r, c: c, wrote: map[place]string{}, told: map[api.Errno]int{}, least: make([]int64, nodes)}
	for i := range nodes {
		x.disks = append(x.disks, disk.New(c.Disk))
		x.nodes = append(x.nodes, open(t, c, i))
		x.models = append(x.models, newModel(c, i, map[string]api.Sibs{}, map[place]api.Sibs{}))
		x.crash(i)
	}
	for i := range 5 {
		x.keys = append(x.keys, fmt.Sprint(string(rune('a'+i)), r.Intn(50)))
	}
	return x
}

// crash lets node i lose what does not last.
func (x *run) crash(i int) {
	x.disks[i].Crash(x.r.Int())
	x.nodes[i] = openOver(x.t, x.c, i, x.disks[i])
	x.models[i] = newModel(x.c, i, x.models[i].known, x.models[i].kept)
	x.least[i] = 0
	for p := range x.wrote {
		if p.node == i {
			delete(x.wrote, p)
		}
	}
}

// step does something at random, and holds all nodes against their models.
func (x *run) step(lossy bool) {
	r, i := x.r, x.r.Intn(x.c.Nodes)
	n, o, key := x.nodes[i], x.models[i], x.keys[x.r.Intn(len(x.keys))]
	switch k := r.Intn(100); {
	case k < 12:
		seen, data, dead := x.known(key), []byte(fmt.Sprint("v", r.Intn(9))), r.Intn(4) == 0
		if dead {
			data = nil
		}
		op, err := n.Put(key, seen, data, dead)
		want, wantErr := o.put(key, seen, data, dead)
		x.same(op, err, want, wantErr)
		if err == api.OK {
			s, _ := n.Store().Get(key)
			x.wrote[place{i, fmt.Sprint(op)}] = key + sibsText(s)
		}
	case k < 20:
		op, err := n.Get(key)
		want, wantErr := o.get(key)
		x.same(op, err, want, wantErr)
	case k < 35:
		n.Tick()
		o.tick()
	case k < 36 && lossy:
		x.crash(i)
		i = r.Intn(x.c.Nodes)
	case len(x.net) > 0:
		at := r.Intn(len(x.net))
		m := x.net[at]
		if what := r.Intn(20); what > 0 || !lossy {
			x.net = slices.Delete(x.net, at, at+1)
			if what == 1 && lossy {
				break
			}
		}
		x.nodes[m.To].Receive(m)
		x.models[m.To].receive(m)
		i = m.To
	}
	x.compare(i)
}

// same holds what two told against each other.
func (x *run) same(op int64, err api.Errno, want int64, wantErr api.Errno) {
	x.told[err]++
	if op != want || err != wantErr {
		x.t.Errorf("%d %v, not %d %v", op, err, want, wantErr)
	}
}

// known is what a client may have seen of a key.
func (x *run) known(key string) api.Vector {
	s, _ := x.nodes[x.r.Intn(x.c.Nodes)].Store().Get(key)
	if x.r.Intn(3) == 0 {
		return api.Vector{}
	}
	return s.Seen
}

// compare holds node i against its model.
func (x *run) compare(i int) {
	t, n, o := x.t, x.nodes[i], x.models[i]
	t.Helper()
	out, l := n.Out(), n.Answers()
	is(t, "sent", texts(out, messageText), texts(o.out, messageText))
	is(t, "answers", texts(l, answerText), texts(o.answered, answerText))
	is(t, "all", fmt.Sprint(has(n), " | ", members(n), " | ", n.Waiting(), " ", n.Sent(), " ", n.Ticks()), o.all())
	o.out, o.answered = nil, nil
	for _, m := range out {
		if !message.May(m) {
			t.Error("it may not be sent: ", messageText(m))
		}
		if len(x.net) < 200 {
			x.net = append(x.net, m)
		}
	}
	x.bounds(i)
	for _, a := range l {
		x.told[100+a.Err]++
		if text, ok := x.wrote[place{i, fmt.Sprint(a.Op)}]; ok && a.Err == api.OK {
			key := text[:len(text)-len(sibsText(a.Sibs))]
			is(t, "the answer to a Put", key+sibsText(a.Sibs), text)
			x.promised = append(x.promised, api.Entry{Key: key, Sibs: a.Sibs})
		}
	}
}

// bounds holds node i to P23.6.
func (x *run) bounds(i int) {
	n := x.nodes[i]
	if n.Waiting() > x.c.Queue {
		x.t.Error("waiting", n.Waiting(), "of", x.c.Queue)
	}
	less := n.Sent() - int64(x.c.Rate)*n.Ticks()
	if less-x.least[i] > int64(x.c.Burst) {
		x.t.Error("pumped", n.Sent(), "in", n.Ticks(), "at", x.c.Rate, x.c.Burst)
	}
	x.least[i] = min(x.least[i], less)
}

// kept holds P23.7: what was answered is known to W of its key's owners, or kept for them.
func (x *run) kept() {
	for _, e := range x.promised {
		owners := 0
		for _, owner := range x.models[0].owners(e.Key) {
			s, _ := x.nodes[owner].Store().Get(e.Key)
			has := sibs.Leq(e.Sibs, s)
			for _, n := range x.nodes {
				for _, h := range n.Store().Hints() {
					has = has || h.For == owner && h.Entry.Key == e.Key && sibs.Leq(e.Sibs, h.Entry.Sibs)
				}
			}
			if has {
				owners++
			}
		}
		if owners < x.c.W {
			x.t.Error(entryText(e), "is known to", owners, "of", x.c.W)
		}
	}
}

// P23.1 to P23.7: by the chapter's words, over long runs with losses, copies and crashes.
func TestByWords(t *testing.T) {
	told := map[api.Errno]int{}
	for seed := range int64(60) {
		x := newRun(t, rand.New(rand.NewSource(seed)))
		for i := range 1000 {
			if x.step(seed%5 > 0); t.Failed() {
				t.Fatal("seed", seed, "step", i, x.c)
			}
			if i%100 == 0 {
				x.kept()
			}
		}
		x.kept()
		for err, count := range x.told {
			told[err] += count
		}
	}
	for _, err := range []api.Errno{api.OK, api.ErrOwner, 100 + api.OK, 100 + api.ErrTimeout} {
		if told[err] < 100 {
			t.Error("too seldom told", err, told[err])
		}
	}
}

// P23.3: whatever comes, by the chapter's words: forged messages too.
func TestForged(t *testing.T) {
	for seed := range int64(40) {
		r := rand.New(rand.NewSource(seed))
		x := newRun(t, r)
		for i := range 500 {
			if r.Intn(2) == 0 {
				m := forged(r, x.keys)
				to := r.Intn(x.c.Nodes)
				if r.Intn(20) > 0 {
					m.To = to
				}
				x.nodes[to].Receive(m)
				x.models[to].receive(m)
				x.compare(to)
			} else {
				x.step(true)
			}
			if t.Failed() {
				t.Fatal("seed", seed, "step", i, x.c)
			}
		}
	}
}

// forged is a message that no node may have sent.
func forged(r *rand.Rand, names []string) api.Message {
	m := api.Message{Kind: 1 + r.Intn(9), From: r.Intn(7), To: r.Intn(6), Op: int64(r.Intn(9)), For: r.Intn(8), Bucket: r.Intn(5), Key: names[r.Intn(len(names))]}
	if r.Intn(20) == 0 {
		m.Key = ""
	}
	some := r.Intn(3)
	if m.Kind == api.MHint || m.Kind == api.MPutAck || m.Kind == api.MGot {
		some = r.Intn(8) % 3 % 2
	}
	if m.Kind == api.MHint && r.Intn(9) > 0 {
		some = 1
	}
	for range some {
		key := names[r.Intn(len(names))]
		if r.Intn(4) > 0 && some == 1 {
			key = m.Key
		}
		m.Entries = append(m.Entries, api.Entry{Key: key, Sibs: anySibs(r)})
	}
	for range r.Intn(3) {
		s := anySibs(r)
		m.Digests = append(m.Digests, api.Digest{Key: names[r.Intn(len(names))], Seen: s.Seen, Dots: sibs.Dots(s)})
	}
	for range r.Intn(4) {
		m.Members = append(m.Members, api.Member{State: r.Intn(3), Inc: int64(r.Intn(3))})
	}
	return m
}

// anySibs is sibs of few events, now and then of many.
func anySibs(r *rand.Rand) api.Sibs {
	var s api.Sibs
	for node := range 4 {
		s.Seen[node] = int64(r.Intn(3) * r.Intn(3))
		if r.Intn(3) == 0 && s.Seen[node] > 0 {
			s.Values = append(s.Values, val(node, s.Seen[node], []string{"!", "a", "b"}[r.Intn(3)]))
		}
	}
	return s
}
