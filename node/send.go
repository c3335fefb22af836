package node

import (
	"slices"

	"tattler/api"
	"tattler/message"
)

// Urgencies of what is queued.
const (
	urgencyDigest = 0
	urgencySync   = 1
	urgencyRepair = 2
	urgencyPing   = 3
)

// send hands m out at once. Its lists are copied: one entry may go to several nodes.
func (n *Node) send(to int, m api.Message) {
	if to == n.id {
		return
	}
	m.From, m.To = n.id, to
	n.out = append(n.out, message.Plain(m))
}

// wait queues m; if there is no room, it is lost.
func (n *Node) wait(to, urgency int, m api.Message) {
	if to == n.id {
		return
	}
	m.From, m.To = n.id, to
	n.queue.Put(m, urgency)
}

// pump hands out what waits, as long as there are tokens.
func (n *Node) pump() {
	for n.queue.Len() > 0 && n.tokens.Take() {
		m, _ := n.queue.Take()
		n.out = append(n.out, m)
	}
}

// spread sends a write to the other owners, or to stand-ins for those that are dead.
func (n *Node) spread(op int64, e api.Entry) {
	owners, others := n.order(e.Key)
	standIns := slices.DeleteFunc(others, n.isDead)
	for _, owner := range owners {
		if n.isDead(owner) && len(standIns) > 0 {
			n.send(standIns[0], api.Message{Kind: api.MHint, Op: op, For: owner, Entries: []api.Entry{e}})
			// None keeps for two: if it were lost, the write would lack two owners.
			standIns = standIns[1:]
			continue
		}
		n.send(owner, api.Message{Kind: api.MPut, Op: op, Entries: []api.Entry{e}})
	}
}

// order tells the owners of key, and behind them all others, as they are asked.
func (n *Node) order(key string) (owners, others []int) {
	order := n.ring.Order(key)
	count := min(n.config.Owners, len(order))
	return order[:count], order[count:]
}

// owns tells whether node is an owner of key.
func (n *Node) owns(node int, key string) bool {
	return n.ring.Owns(node, key, n.config.Owners)
}

// bothOwn tells of keys whether this node and the other are owners of them.
func (n *Node) bothOwn(other int) func(key string) bool {
	return func(key string) bool { return n.owns(n.id, key) && n.owns(other, key) }
}

// shared tells the entries of a bucket that this node and the other own.
func (n *Node) shared(b, other int) []api.Entry {
	ours := n.bothOwn(other)
	return slices.DeleteFunc(n.store.Bucket(b), func(e api.Entry) bool { return !ours(e.Key) })
}

// isDead tells whether node is held for dead.
func (n *Node) isDead(node int) bool {
	return n.view.State(node) == api.Dead
}
