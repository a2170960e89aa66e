package raft

import (
	"slices"

	"dotterel/api"
	"dotterel/ballot"
	"dotterel/pack"
	"dotterel/quorum"
	"dotterel/rlog"
)

// The keys of what is kept; those of the entries follow, by their indexes.
const (
	ballotKey = iota
	snapshotKey
)

// mostIndex is the greatest index whose entry has a key.
const mostIndex = most - snapshotKey

func entryKey(i int) int { return snapshotKey + i }

// mostMembersBytes is how many bytes members have at most.
const mostMembersBytes = 8

// snapshot is what stands in the place of all entries up to an index.
type snapshot struct {
	index, term int
	members     []int // none: it isn't known who they are
	state       []byte
}

// text is the snapshot as a value of the vault.
func (s snapshot) text() []byte {
	var w pack.Writer
	w.Num(s.index)
	w.Num(s.term)
	var members []byte
	if len(s.members) > 0 {
		members = quorum.Bytes(s.members)
	}
	w.Text(members)
	w.Text(s.state)
	return w.Bytes()
}

// snapshotOf is the snapshot of which text is a value; false: there is none.
func snapshotOf(text []byte) (snapshot, bool) {
	r := pack.Read(text)
	s := snapshot{index: r.Num(mostIndex), term: r.Num(most)}
	members, right := r.Text(mostMembersBytes), true
	s.state = r.Text(mostState)
	if len(members) > 0 {
		s.members, right = quorum.Read(members)
	}
	return s, right && r.End() == api.OK
}

// entryText is an entry as fields.
func entryText(e api.Entry) []byte {
	var w pack.Writer
	w.Num(e.Term)
	w.Num(e.Kind)
	w.Text(e.B)
	return w.Bytes()
}

// readEntry is the next entry; false: it is none that a leader makes.
func readEntry(r *pack.Reader) (api.Entry, bool) {
	e := api.Entry{Term: r.Num(most), Kind: r.Num(api.EntryMembers), B: r.Text(mostCommand)}
	right := r.Err() == api.OK && e.Term > 0
	switch e.Kind {
	case api.EntryNone:
		right = right && len(e.B) == 0
	case api.EntryMembers:
		_, are := quorum.Read(e.B)
		right = right && are
	}
	return e, right
}

// kept takes what the vault answered to a change; false: it refused it, and the node is dead.
func (n *Node) kept(err api.Errno) bool {
	n.refused = err
	return err == api.OK
}

// load takes all from the vault; the members are the snapshot's, if there is none.
func (n *Node) load(members []int) api.Errno {
	n.snap.members, n.ballot.Vote = slices.Clone(members), nobody
	text, old := n.vault.Get(snapshotKey)
	right := true
	if old {
		n.snap, right = snapshotOf(text)
	}
	if text, voted := n.vault.Get(ballotKey); right && voted {
		n.ballot, right = ballot.Read(text)
	}
	if !right || n.snap.term > n.ballot.Term {
		return api.ErrArg
	}
	n.loadEntries()
	n.members, n.changed = n.membersAt(lastOf(n.log))
	// Whoever was voted for ahead of a crash: no log is known to be newer.
	n.chosen = place{most, most}
	n.commit, n.told, n.untold = n.snap.index, n.snap.index, n.snap.index > 0
	if old {
		n.sweep()
	} else {
		n.kept(n.vault.Put(snapshotKey, n.snap.text()))
	}
	return api.OK
}

// loadEntries takes the entries behind the snapshot from the vault, up to the first that isn't there, or may not stand there.
func (n *Node) loadEntries() {
	i, term := n.snap.index, n.snap.term
	n.log = rlog.New(i, term)
	for {
		i++
		text, there := n.vault.Get(entryKey(i))
		r := pack.Read(text)
		e, right := readEntry(r)
		if !there || !right || r.End() != api.OK || !rising(term, []api.Entry{e}, n.ballot.Term) {
			return
		}
		n.log.Push(e)
		term = e.Term
	}
}

// sweep drops the entries up to the snapshot: a crash behind its being kept may have left some.
func (n *Node) sweep() {
	for _, key := range n.vault.Keys() {
		if key > snapshotKey && key <= entryKey(n.snap.index) && !n.kept(n.vault.Drop(key)) {
			return
		}
	}
}

// keepSnapshot makes s the snapshot, for sure, and drops the entries up to it. It comes first: they may be promised, and are in it.
func (n *Node) keepSnapshot(s snapshot) bool {
	if !n.kept(n.vault.Put(snapshotKey, s.text())) {
		return false
	}
	base, _ := n.log.Base()
	for i := base + 1; i <= min(s.index, lastOf(n.log)); i++ {
		if !n.kept(n.vault.Drop(entryKey(i))) {
			return false
		}
	}
	n.snap = s
	return true
}

// push lays an entry behind all, for sure.
func (n *Node) push(e api.Entry) bool {
	i := lastOf(n.log) + 1
	if !n.kept(n.vault.Put(entryKey(i), entryText(e))) {
		return false
	}
	n.log.Push(e)
	if e.Kind == api.EntryMembers {
		n.members, n.changed = n.membersAt(i)
	}
	return true
}

// keepFrom makes the log's entries from first on sure, where there were some up to the one before.
func (n *Node) keepFrom(first, before int) bool {
	// From behind: whenever the power fails, what is kept is a beginning of the log as it was, or as it is.
	if !n.dropBack(before, first) {
		return false
	}
	last := lastOf(n.log)
	for i := first; i <= last; i++ {
		e, _ := n.log.Get(i)
		if !n.kept(n.vault.Put(entryKey(i), entryText(e))) {
			return false
		}
	}
	if first <= last {
		n.members, n.changed = n.membersAt(last)
	}
	return true
}

// dropBack drops the entries from the last one back to the one behind i.
func (n *Node) dropBack(last, i int) bool {
	for ; last > i; last-- {
		if !n.kept(n.vault.Drop(entryKey(last))) {
			return false
		}
	}
	return true
}

// membersAt are the members as of the entry i, and the index of the entry that made them so, or the base's.
func (n *Node) membersAt(i int) ([]int, int) {
	base, _ := n.log.Base()
	for ; i > base; i-- {
		if e, _ := n.log.Get(i); e.Kind == api.EntryMembers {
			members, _ := quorum.Read(e.B)
			return members, i
		}
	}
	return n.snap.members, base
}

// lastOf is the index of the last entry.
func lastOf(l *rlog.Log) int {
	last, _ := l.Last()
	return last
}

// rising tells whether the terms of entries that stand behind one of a term never fall, and are at most the last one.
func rising(term int, es []api.Entry, last int) bool {
	for _, e := range es {
		if e.Term < term || e.Term > last {
			return false
		}
		term = e.Term
	}
	return true
}
