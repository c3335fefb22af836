package node

import (
	"slices"

	"tattler/api"
	"tattler/digest"
	"tattler/plan"
	"tattler/sibs"
)

// mostMissed is how many questions a node may leave open till it is suspected.
const mostMissed = 2

// Tick lets time go on, and tells one other node of one bucket.
func (n *Node) Tick() {
	if n == nil {
		return
	}
	n.operations.Tick()
	n.view.Tick()
	n.queue.Tick()
	n.tokens.Tick()
	t := n.ticks.Now()
	b := plan.Bucket(n.config.Nodes, t)
	if peer := plan.Peer(n.config.Nodes, n.id, t); peer >= 0 {
		n.ask(peer)
		n.tell(peer, b)
		n.passHint()
	} else {
		b = int(t % api.Buckets)
	}
	n.reap(b)
	n.ticks.Add(1)
	n.pump()
}

// ask asks another node whether it is there; one that left too many questions open is suspected.
func (n *Node) ask(peer int) {
	if n.view.Missed(peer) >= mostMissed {
		n.view.Suspect(peer)
	}
	n.view.Asked(peer)
	n.wait(peer, urgencyPing, api.Message{Kind: api.MPing, Members: n.view.All()})
}

// tell tells another node what there is of a bucket here.
func (n *Node) tell(peer, b int) {
	n.wait(peer, urgencyDigest, api.Message{Kind: api.MDigest, Bucket: b, Digests: digest.Of(n.shared(b, peer))})
}

// passHint passes the first hint on whose node can be reached again.
func (n *Node) passHint() {
	for _, h := range n.store.Hints() {
		if !n.isDead(h.For) {
			n.wait(h.For, urgencyRepair, api.Message{Kind: api.MHint, For: h.For, Entries: []api.Entry{h.Entry}})
			return
		}
	}
}

// reap lets go the values of the first key of a bucket that are all dead.
func (n *Node) reap(b int) {
	entries := n.store.Bucket(b)
	first := slices.IndexFunc(entries, func(e api.Entry) bool { return !sibs.Same(e.Sibs, sibs.Reap(e.Sibs)) })
	if first >= 0 {
		n.store.Reap(entries[first].Key)
	}
}
