package node

import (
	"slices"

	"tattler/api"
	"tattler/digest"
	"tattler/message"
	"tattler/sibs"
)

// mostSent is how many bytes of entries one message brings another node in the background.
const mostSent = 8000

// Receive does what a message asks for.
func (n *Node) Receive(m api.Message) {
	if !n.hears(m) {
		return
	}
	switch m.Kind {
	case api.MPut:
		n.receivePut(m)
	case api.MPutAck:
		n.receivePutAck(m)
	case api.MHint:
		n.receiveHint(m)
	case api.MGet:
		n.send(m.From, api.Message{Kind: api.MGot, Op: m.Op, Entries: n.known(m.Key)})
	case api.MGot:
		n.receiveGot(m)
	case api.MDigest:
		n.receiveDigest(m)
	case api.MSync:
		n.receiveSync(m)
	case api.MPing:
		n.receiveMembers(m)
		n.send(m.From, api.Message{Kind: api.MAck, Members: n.view.All()})
	case api.MAck:
		n.receiveMembers(m)
	}
	n.pump()
}

// hears tells whether m is a message of another node of the cluster to this one.
func (n *Node) hears(m api.Message) bool {
	return n != nil && message.May(m) && m.To == n.id && m.From != n.id && m.From < n.config.Nodes
}

// receivePut joins what another node knows, and answers if that is asked for and all of it is known now.
func (n *Node) receivePut(m api.Message) {
	all := true
	for _, e := range m.Entries {
		_, err := n.store.Join(e)
		all = all && err == api.OK
	}
	if all && m.Op > 0 && len(m.Entries) > 0 {
		n.acknowledge(m, n.id, n.known(m.Entries[0].Key))
	}
}

// receivePutAck lets go what was kept for the sender and is known to it, and counts it for the write that it answers.
func (n *Node) receivePutAck(m api.Message) {
	if m.Key == "" || len(m.Entries) == 0 {
		return
	}
	known := m.Entries[0].Sibs
	n.store.Unhint(m.From, m.Key, known)
	key, written, ok := n.operations.Key(m.Op)
	// Behind a crash numbers begin anew: an answer of the life before counts only if it knows what was written in this one.
	if ok && key == m.Key && sibs.Leq(written, known) {
		n.operations.Ack(m.Op, m.For)
	}
}

// receiveHint keeps what another node is to know; what it is to know itself it joins.
func (n *Node) receiveHint(m api.Message) {
	e := m.Entries[0]
	if m.For == n.id {
		if _, err := n.store.Join(e); err == api.OK {
			n.acknowledge(m, n.id, n.known(e.Key))
		}
		return
	}
	if n.store.Hint(api.Hint{For: m.For, Entry: e}) == api.OK {
		n.acknowledge(m, m.For, n.kept(m.For, e.Key))
	}
}

// receiveGot counts an answer to a read; when the read is done, it brings all that answered to what they know together.
func (n *Node) receiveGot(m api.Message) {
	// What was joined is to be asked ahead: a read that is done is under way no more.
	key, joined, _ := n.operations.Key(m.Op)
	e := api.Entry{Key: key}
	if len(m.Entries) > 0 {
		e = m.Entries[0]
	}
	behind, done := n.operations.Got(m.Op, m.From, e)
	if !done {
		return
	}
	all := api.Entry{Key: key, Sibs: sibs.Join(joined, e.Sibs)}
	if slices.Contains(behind, n.id) {
		n.store.Join(all)
	}
	for _, node := range behind {
		n.wait(node, urgencyRepair, api.Message{Kind: api.MPut, Entries: []api.Entry{all}})
	}
}

// receiveDigest tells the sender what it lacks of a bucket, and what there is of it here.
func (n *Node) receiveDigest(m api.Message) {
	ours := n.shared(m.Bucket, m.From)
	n.wait(m.From, urgencySync, api.Message{
		Kind:    api.MSync,
		Bucket:  m.Bucket,
		Entries: digest.Send(ours, m.Digests, mostSent),
		Digests: digest.Of(ours),
	})
}

// receiveSync joins what was lacking here, and tells the sender what it lacks.
func (n *Node) receiveSync(m api.Message) {
	ours := n.bothOwn(m.From)
	for _, e := range m.Entries {
		if ours(e.Key) {
			n.store.Join(e)
		}
	}
	lacking := digest.Send(n.shared(m.Bucket, m.From), m.Digests, mostSent)
	if len(lacking) > 0 {
		n.wait(m.From, urgencySync, api.Message{Kind: api.MPut, Entries: lacking})
	}
}

// receiveMembers takes what the sender holds of all nodes; whatever that is, the sender is there.
func (n *Node) receiveMembers(m api.Message) {
	n.view.Join(m.Members)
	n.view.Heard(m.From)
}

// acknowledge tells the sender of m that the node who has what m brought.
func (n *Node) acknowledge(m api.Message, who int, known []api.Entry) {
	for _, e := range known {
		n.send(m.From, api.Message{Kind: api.MPutAck, Op: m.Op, For: who, Key: e.Key, Entries: known})
	}
}

// known is what is known of key: one entry, or none.
func (n *Node) known(key string) []api.Entry {
	s, there := n.store.Get(key)
	if !there {
		return nil
	}
	return []api.Entry{{Key: key, Sibs: s}}
}

// kept is what is kept for node of key: one entry, or none.
func (n *Node) kept(node int, key string) []api.Entry {
	for _, h := range n.store.Hints() {
		if h.For == node && h.Entry.Key == key {
			return []api.Entry{h.Entry}
		}
	}
	return nil
}
