package raft

import (
	"bytes"

	"dotterel/api"
	"dotterel/quorum"
	"dotterel/rlog"
)

// What an answer to entries, or to a snapshot, says of its index.
const (
	passed = iota // nothing: the term is over
	has           // all up to it is as the leader has it
	lacks         // from it on entries are lacking; 0: all, also who the members are
)

// follow takes the one who leads in a term as the leader; false: nobody does, or the vault refused it.
func (n *Node) follow(from, term int) bool {
	if term < n.ballot.Term {
		n.answer(from, passed, 0, 0)
		return false
	}
	if !n.see(term) || n.role == api.Leader {
		return false
	}
	n.role, n.leader, n.wait, n.votes = api.Follower, from, 0, nil
	return true
}

// answer tells a leader what is here; prev is the index behind which entries came.
func (n *Node) answer(to, what, prev, index int) {
	n.send(to, api.MAppendOk, n.ballot.Term, what, prev, index)
}

// handedEntries: of a term, the index and the term behind which they come, up to where all is committed; and the entries.
func (n *Node) handedEntries(from int, m api.Msg) {
	prev, term, commit := m.N[1], m.N[2], m.N[3]
	es, right := unbundle(m.L)
	end := prev + len(es)
	if !right || end > mostIndex || !rising(term, es, m.N[0]) || !n.follow(from, m.N[0]) {
		return
	}
	switch {
	case n.isBlank():
		n.answer(from, lacks, prev, 0)
	case !n.take(prev, term, es):
		n.answer(from, lacks, prev, n.lackingFrom(prev))
	case !n.Dead():
		n.commit = max(n.commit, min(commit, end))
		n.answer(from, has, prev, end)
	}
}

// isBlank tells whether the node doesn't know who the members were ahead of its log. It takes no entries till it does: a snapshot of its own would not tell it to others.
func (n *Node) isBlank() bool { return len(n.snap.members) == 0 }

// take lets the log have the entries es behind prev, for sure; false: it has not that term there.
func (n *Node) take(prev, term int, es []api.Entry) bool {
	// What is committed isn't gone through again: whoever leads has it, and it stays, whatever comes.
	if done := n.commit - prev; done > 0 && done < len(es) {
		prev, term, es = n.commit, es[done-1].Term, es[done:]
	} else if done > 0 {
		return true
	}
	before := lastOf(n.log)
	first, ok := n.log.Match(prev, term, es)
	if ok {
		n.keepFrom(first, before)
	}
	return ok
}

// lackingFrom is from where on entries are to come, where the one at prev isn't the leader's: behind the last one, or, if another one stands there, behind what is committed.
func (n *Node) lackingFrom(prev int) int {
	if last := lastOf(n.log); last < prev {
		return last + 1
	}
	return n.commit + 1
}

// handedSnapshot: of a term, the index and the term of its last entry; its bytes, and the members.
func (n *Node) handedSnapshot(from int, m api.Msg) {
	s := snapshot{index: m.N[1], term: m.N[2], state: bytes.Clone(m.B)}
	right := s.index <= mostIndex && s.term <= m.N[0] && len(s.state) <= mostState && len(m.L) == 1
	if right {
		s.members, right = quorum.Read(m.L[0])
	}
	if !right || !n.follow(from, m.N[0]) {
		return
	}
	if term, there := n.log.Term(s.index); !n.isBlank() && (s.index <= n.commit || there && term == s.term) {
		// All of it is here: it is committed.
		n.commit = max(n.commit, s.index)
	} else if !n.install(s) {
		return
	}
	n.answer(from, has, 0, s.index)
}

// install begins anew from a snapshot, for sure.
func (n *Node) install(s snapshot) bool {
	// What stands behind it goes first: it stands behind other entries than those of the snapshot.
	if !n.dropBack(lastOf(n.log), s.index) || !n.keepSnapshot(s) {
		return false
	}
	n.log = rlog.New(s.index, s.term)
	n.members, n.changed = s.members, s.index
	n.commit, n.told, n.untold = s.index, s.index, s.index > 0
	return true
}
