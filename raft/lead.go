package raft

import (
	"bytes"

	"dotterel/api"
	"dotterel/pack"
	"dotterel/quorum"
)

// beat is how many ticks a leader lets go by till it hands entries on again.
const beat = 3

// How much of the log a message has: lists of so many bytes are at most so many, and entries.
const (
	mostList    = 2048
	mostLists   = 32
	mostEntries = 1024
)

// peer is what a leader knows of another member.
type peer struct {
	next  int // the index from which on entries are handed to it; of the base, or below: the snapshot
	match int // up to where it has what the leader has; -1: it isn't known
	heard int // when it answered last, in the leader's ticks
}

// lead begins to lead.
func (n *Node) lead() {
	n.role, n.leader, n.votes, n.clock = api.Leader, n.id, nil, 0
	n.peers = map[int]peer{}
	for _, id := range n.others() {
		n.meet(id)
	}
	n.add(api.EntryNone, nil)
}

// meet takes a member to have all as the leader has it, till it says otherwise.
func (n *Node) meet(id int) {
	n.peers[id] = peer{next: lastOf(n.log) + 1, match: -1, heard: n.clock}
}

// add lays an entry of the leader's term behind all, and hands it on; false: the vault refused it.
func (n *Node) add(kind int, b []byte) (int, bool) {
	if !n.push(api.Entry{Term: n.ballot.Term, Kind: kind, B: b}) {
		return 0, false
	}
	index := lastOf(n.log)
	n.handAll()
	n.advance()
	return index, true
}

// mayChange tells whether the entry of the change before, and one of the leader's own term, are committed.
func (n *Node) mayChange() bool {
	term, _ := n.log.Term(n.commit)
	return n.changed <= n.commit && term == n.ballot.Term
}

// changeTo lays the entry of the members behind all, with id or without it; false: the vault refused it.
func (n *Node) changeTo(members []int, id int) bool {
	// Who comes again may have lost what it had.
	n.meet(id)
	_, ok := n.add(api.EntryMembers, quorum.Bytes(members))
	return ok
}

// handAll hands entries on to all others.
func (n *Node) handAll() {
	for _, id := range n.others() {
		n.hand(id)
	}
}

// hand hands on what a member lacks: entries, or the snapshot, if it is too far behind.
func (n *Node) hand(id int) {
	next := n.peers[id].next
	base, _ := n.log.Base()
	if next <= base {
		n.handSnapshot(id)
		return
	}
	term, _ := n.log.Term(next - 1)
	n.post(id, api.Msg{Kind: api.MAppend, N: []int{n.ballot.Term, next - 1, term, n.commit}, L: bundle(n.log.From(next, mostEntries))})
}

func (n *Node) handSnapshot(id int) {
	s := n.snap
	n.post(id, api.Msg{Kind: api.MInstall, N: []int{n.ballot.Term, s.index, s.term}, B: bytes.Clone(s.state), L: [][]byte{quorum.Bytes(s.members)}})
}

// bundle are lists in which the entries stand one behind the other, as many as there is room for.
func bundle(es []api.Entry) [][]byte {
	var lists [][]byte
	var list []byte
	for _, e := range es {
		text := entryText(e)
		if len(list)+len(text) > mostList {
			if lists = append(lists, list); len(lists) == mostLists {
				return lists
			}
			list = nil
		}
		list = append(list, text...)
	}
	if len(list) > 0 {
		lists = append(lists, list)
	}
	return lists
}

// unbundle are the entries that stand in lists; false: some are none that a leader makes.
func unbundle(lists [][]byte) ([]api.Entry, bool) {
	var es []api.Entry
	for _, list := range lists {
		r := pack.Read(list)
		for r.End() != api.OK {
			e, right := readEntry(r)
			if !right {
				return nil, false
			}
			es = append(es, e)
		}
	}
	return es, true
}

// toldEntries: of a term, what the answer is, the index behind which the entries came, and the answer's index.
func (n *Node) toldEntries(from int, m api.Msg) {
	if !n.heeds(from, m.N[0]) || n.role != api.Leader {
		return
	}
	p := n.peers[from]
	p.heard = n.clock
	more := false
	switch m.N[1] {
	case has:
		more = n.reached(&p, m.N[3])
	case lacks:
		more = n.lacking(&p, m.N[2], m.N[3])
	}
	n.peers[from] = p
	n.advance()
	// Who leads no more hands nothing on.
	if more && n.leads() {
		n.hand(from)
	}
}

// reached takes note that a member has all up to an index, and tells whether it lacks more, and wasn't known to have that much.
func (n *Node) reached(p *peer, index int) bool {
	last := lastOf(n.log)
	if index <= p.match || index > last {
		return false
	}
	p.match, p.next = index, index+1
	return index < last
}

// lacking takes note that a member hasn't the entry prev, and tells whether something else can be handed to it: from an index on, or else all behind the base, or else the snapshot. Each try is of more: so they end.
func (n *Node) lacking(p *peer, prev, from int) bool {
	base, _ := n.log.Base()
	next := max(from, base+1)
	if next == p.next {
		next = base
	}
	// An answer to an earlier try is late.
	if prev != p.next-1 || p.match >= 0 || next > p.next {
		return false
	}
	p.next = next
	return true
}

// advance commits what a majority has, of the leader's own term, and all ahead of it.
func (n *Node) advance() {
	match := map[int]int{n.id: lastOf(n.log)}
	for id, p := range n.peers {
		match[id] = p.match
	}
	index := quorum.Index(n.members, match)
	if term, _ := n.log.Term(index); index > n.commit && term == n.ballot.Term {
		n.commit = index
	}
	// Who let itself go leads up to there.
	if !n.isMember() && n.changed <= n.commit {
		n.rest()
	}
}
