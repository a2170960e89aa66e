package raft

import (
	"slices"

	"dotterel/api"
	"dotterel/ballot"
	"dotterel/quorum"
)

// A node stands when it has waited for the least number of ticks, and so many more for each number below its own.
const (
	leastWait = 13
	moreWait  = 7
)

// calm is for how many ticks behind hearing of each other a leader and the others take it that this goes on.
const calm = 2 * beat

// What an answer to who asks for a vote says.
const (
	withheld = iota
	given
	later // it isn't given in this term, but would be in a later one
)

// place is where a log ends.
type place struct{ term, index int }

func endOf(index, term int) place { return place{term, index} }

// asNew tells whether a log that ends at p is as new as one that ends at q.
func (p place) asNew(q place) bool { return ballot.AsNew(p.term, p.index, q.term, q.index) }

// mayStand tells whether the node is a member; who is let go is one up to when that is committed. Else two would wait for ever, of whom one led, let itself go, and crashed ahead of saying so: it alone has that entry, and doesn't vote for who lacks it.
func (n *Node) mayStand() bool {
	before, _ := n.membersAt(n.changed - 1)
	return n.isMember() || n.changed > n.commit && slices.Contains(before, n.id)
}

// stand asks all others for their votes, in the next term.
func (n *Node) stand() {
	next := ballot.Stand(n.ballot, n.id)
	if !ballot.Right(next) || !n.cast(next) {
		return
	}
	n.role, n.leader, n.wait, n.votes = api.Candidate, nobody, 0, []int{n.id}
	n.chosen = endOf(n.log.Last())
	for _, id := range n.others() {
		n.send(id, api.MVote, next.Term, n.chosen.term, n.chosen.index)
	}
	n.countVotes()
}

// askedForVote: of a term, and where the log of the one who stands ends.
func (n *Node) askedForVote(from int, m api.Msg) {
	settled := n.settled()
	if settled && !slices.Contains(n.members, from) {
		// It was let go, and doesn't know: terms that rise with each of its tries would end each leader.
		return
	}
	theirs := place{m.N[1], m.N[2]}
	asNew := theirs.asNew(endOf(n.log.Last()))
	b, yes := ballot.Grant(n.ballot, m.N[0], from, asNew)
	if !n.cast(b) {
		return
	}
	what := withheld
	switch {
	case yes:
		n.wait, n.leader, n.chosen, what = 0, nobody, theirs, given
	case asNew && !settled && n.isFree(theirs):
		what = later
	}
	n.send(from, api.MVoteOk, b.Term, what)
}

// isFree tells whether nobody was voted for in this term who may still lead, and whose log is as new as one that ends there: two that end alike would else outdo each other, term by term.
func (n *Node) isFree(theirs place) bool {
	voted := n.ballot.Vote != nobody && (n.ballot.Vote != n.id || n.role != api.Follower)
	return !voted || !n.chosen.asNew(theirs)
}

// settled tells whether somebody leads, as far as the node can tell.
func (n *Node) settled() bool {
	if n.role != api.Leader {
		return n.leader != nobody && n.wait <= calm
	}
	near := []int{n.id}
	for id, p := range n.peers {
		if n.clock-p.heard <= calm {
			near = append(near, id)
		}
	}
	return quorum.Won(n.members, near)
}

// toldVote: of a term, and what the answer is. Who would have the vote later stands again at once: of two who stand in the same ticks, or in terms that the other one doesn't hear of, the one who has to lead would else never do so.
func (n *Node) toldVote(from int, m api.Msg) {
	stood := n.role == api.Candidate
	switch {
	case !n.heeds(from, m.N[0]) || !stood:
	case m.N[1] == later:
		n.stand()
	case m.N[1] == given && n.role == api.Candidate:
		n.votes = append(n.votes, from)
		n.countVotes()
	}
}

// heeds takes note of the term of a member's answer, and tells whether it isn't over.
func (n *Node) heeds(from, term int) bool {
	return slices.Contains(n.members, from) && n.see(term) && term == n.ballot.Term
}

// countVotes lets the node lead, if a majority voted for it.
func (n *Node) countVotes() {
	if quorum.Won(n.members, n.votes) {
		n.lead()
	}
}
