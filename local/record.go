package local

import (
	"tattler/api"
	"tattler/keys"
	"tattler/sibs"
	"tattler/wire"
)

// Kinds of records. They stand on disks: what a number says once, it says for good.
const (
	kindEntry  = 1 // what is known of a key is joined
	kindHint   = 2 // what is kept for a node is joined
	kindUnhint = 3 // what is kept for a node is gone
	kindReap   = 4 // a key's dead values are gone
)

// record is a change, as it stands on the log.
type record struct {
	kind  uint64
	node  int       // of hints: the one that they are for
	entry api.Entry // of the kinds that take something away: the key alone
}

// joins is the record that e is joined.
func joins(e api.Entry) record {
	return record{kind: kindEntry, entry: e}
}

// keeps is the record that h is kept.
func keeps(h api.Hint) record {
	return record{kind: kindHint, node: h.For, entry: h.Entry}
}

// drops is the record that nothing of key is kept for node any more.
func drops(node int, key string) record {
	return record{kind: kindUnhint, node: node, entry: api.Entry{Key: key}}
}

// reaps is the record that key is reaped.
func reaps(key string) record {
	return record{kind: kindReap, entry: api.Entry{Key: key}}
}

// bytes is r as it is laid on the log.
func (r record) bytes() ([]byte, api.Errno) {
	w := wire.NewWriter(api.MaxBytes)
	w.Num(r.kind)
	switch r.kind {
	case kindEntry:
		sibs.WriteEntry(w, r.entry)
	case kindHint:
		w.Num(uint64(r.node))
		sibs.WriteEntry(w, r.entry)
	case kindUnhint:
		w.Num(uint64(r.node))
		w.Text([]byte(r.entry.Key))
	case kindReap:
		w.Text([]byte(r.entry.Key))
	}
	return w.Done()
}

// parse is the record whose bytes are b, all of them.
func parse(b []byte) (record, bool) {
	r := wire.NewReader(b)
	out := record{kind: r.Num()}
	ok := false
	switch out.kind {
	case kindEntry:
		out.entry, ok = sibs.ReadEntry(r)
	case kindHint:
		out.node = readNode(r)
		out.entry, ok = sibs.ReadEntry(r)
	case kindUnhint:
		out.node = readNode(r)
		out.entry.Key, ok = readKey(r)
	case kindReap:
		out.entry.Key, ok = readKey(r)
	}
	if !ok || r.End() != api.OK {
		return record{}, false
	}
	return out, true
}

// readNode takes a node; of a number that is none the reader has an error.
func readNode(r *wire.Reader) int {
	return r.Count(api.MaxNodes - 1)
}

// readKey takes a key that may be.
func readKey(r *wire.Reader) (string, bool) {
	key := string(r.Text(api.MaxKey))
	return key, keys.May(key)
}
