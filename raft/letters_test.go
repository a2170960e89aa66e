package raft_test

import (
	"bytes"
	"math"
	"slices"
	"strings"
	"testing"

	"dotterel/api"
	"dotterel/pack"
	"dotterel/quorum"
	"dotterel/raft"
	"dotterel/sector"
	"dotterel/vault"
)

// What answers say, as messages tell it.
const (
	passed = iota
	has
	lacks
)

const (
	withheld = iota
	given
	later
)

// listOf are entries as a message has them.
func listOf(es ...api.Entry) [][]byte {
	var w pack.Writer
	for _, e := range es {
		w.Num(e.Term)
		w.Num(e.Kind)
		w.Text(e.B)
	}
	return [][]byte{w.Bytes()}
}

// ofTerms are commands of these terms.
func ofTerms(terms ...int) []api.Entry {
	var es []api.Entry
	for i, term := range terms {
		es = append(es, api.Entry{Term: term, Kind: api.EntryCommand, B: []byte{byte(term), byte(i)}})
	}
	return es
}

// handing is a message of a leader.
func handing(term, prev, prevTerm, commit int, es ...api.Entry) api.Msg {
	return api.Msg{Kind: api.MAppend, N: []int{term, prev, prevTerm, commit}, L: listOf(es...)}
}

func installing(term, index, indexTerm int, state []byte, members ...int) api.Msg {
	return api.Msg{Kind: api.MInstall, N: []int{term, index, indexTerm}, B: state, L: [][]byte{quorum.Bytes(members)}}
}

// mustAnswer holds what a node answers to a message of 0.
func mustAnswer(t *testing.T, n *raft.Node, m api.Msg, want ...int) {
	t.Helper()
	n.Handle(0, m)
	out := n.Out()
	if len(want) == 0 && out == nil {
		return
	}
	if len(out) != 1 || out[0].To != 0 || out[0].M.Kind != m.Kind+1 && m.Kind != api.MInstall || !slices.Equal(out[0].M.N, want) {
		t.Fatalf("to %v it answers %v, not %v: %+v", m.N, out, want, n.Status())
	}
}

// termsOf are the terms of the log that a device keeps, from the snapshot on, as a node of it answers.
func termsOf(t *testing.T, id int, d *sector.Device) []int {
	t.Helper()
	n := reopened(t, id, d, nil)
	s := n.Status()
	var terms []int
	for i := s.Commit + 1; i <= s.Last; i++ {
		for term := range 20 {
			n.Handle(0, handing(99, i, term, 0))
			if out := n.Out(); out[0].M.N[1] == has {
				terms = append(terms, term)
			}
		}
	}
	if len(terms) != s.Last-s.Commit {
		t.Fatalf("%v of %+v", terms, s)
	}
	return terms
}

// filled is a node 1 of three, with entries of these terms.
func filled(t *testing.T, commit int, terms ...int) (*raft.Node, *sector.Device) {
	t.Helper()
	n, d := opened(t, 1, upTo(3))
	last := terms[len(terms)-1]
	mustAnswer(t, n, handing(last, 0, 0, commit, ofTerms(terms...)...), last, has, 0, len(terms))
	return n, d
}

// What is answered to entries: that they are there, from where on they are lacking, or that the term is over.
func TestAnswers(t *testing.T) {
	for _, x := range []struct {
		name           string
		m              api.Msg
		what, index    int
		last, commit   int
		prevOfNoAnswer bool
	}{
		{"behind all", handing(4, 5, 4, 2), has, 5, 5, 2, false},
		{"behind all, committed", handing(4, 5, 4, 9), has, 5, 5, 5, false},
		{"one more", handing(4, 5, 4, 6, ofTerms(4)...), has, 6, 6, 6, false},
		{"two that are there", handing(4, 1, 1, 3, ofTerms(2, 2)...), has, 3, 5, 3, false},
		{"what is there, late", handing(4, 2, 2, 0, ofTerms(2)...), has, 3, 5, 2, false},
		{"committed beyond them", handing(4, 2, 2, 5, ofTerms(2)...), has, 3, 5, 3, false},
		{"other ones", handing(4, 3, 2, 4, ofTerms(4, 4, 4)...), has, 6, 6, 4, false},
		{"another one, and no more", handing(5, 3, 2, 3, ofTerms(5)...), has, 4, 4, 3, false},
		{"too far on", handing(4, 9, 4, 9), lacks, 6, 5, 2, false},
		{"one too far on", handing(4, 6, 4, 9, ofTerms(4)...), lacks, 6, 5, 2, false},
		{"another term ahead", handing(4, 4, 4, 9, ofTerms(4)...), lacks, 3, 5, 2, false},
		{"another term ahead of nothing", handing(4, 3, 1, 9), lacks, 3, 5, 2, false},
		{"all is committed", handing(4, 1, 1, 9, ofTerms(2)...), has, 2, 5, 2, false},
		{"far behind", handing(4, 0, 0, 9), has, 0, 5, 2, false},
		{"some is committed", handing(4, 0, 0, 3, ofTerms(1, 2, 2)...), has, 3, 5, 3, false},
		{"some is committed, and other ones", handing(4, 0, 0, 3, ofTerms(1, 2, 4)...), has, 3, 3, 3, false},
		{"what is committed is another one", handing(4, 0, 0, 3, ofTerms(1, 1, 4)...), lacks, 3, 5, 2, false},
		{"a term that is over", handing(2, 5, 4, 5), passed, 0, 5, 2, true},
		{"a term that is over, and other ones", handing(2, 2, 2, 3, ofTerms(2, 2)...), passed, 0, 5, 2, true},
	} {
		n, _ := filled(t, 2, 1, 2, 2, 3, 4)
		prev := x.m.N[1]
		if x.prevOfNoAnswer {
			prev = 0
		}
		mustAnswer(t, n, x.m, max(4, x.m.N[0]), x.what, prev, x.index)
		if s := n.Status(); s.Last != x.last || s.Commit != x.commit || s.Leader != 0 {
			t.Fatalf("%s: it is %+v", x.name, s)
		}
	}
}

// What stands behind the base, ahead of it, and at it.
func TestAnswersBehindBase(t *testing.T) {
	n, _ := filled(t, 5, 1, 1, 1, 1, 1, 1, 1)
	n.Applied()
	if e := n.Snapshot(4, nil); e != api.OK {
		t.Fatal(e)
	}
	mustAnswer(t, n, handing(1, 0, 0, 6, ofTerms(1, 1, 1)...), 1, has, 0, 3)
	mustAnswer(t, n, handing(1, 2, 1, 6, ofTerms(1, 1, 1, 1)...), 1, has, 2, 6)
	mustAnswer(t, n, handing(1, 4, 1, 7, ofTerms(1, 1, 1, 1)...), 1, has, 4, 8)
	if s := n.Status(); s.Commit != 7 || s.Last != 8 {
		t.Fatalf("it is %+v", s)
	}
}

// P17.1: entries that no node makes count for nothing.
func TestWrongEntries(t *testing.T) {
	good := api.Entry{Term: 2, Kind: api.EntryNone}
	for _, e := range []api.Entry{
		{Term: 2, Kind: api.EntryNone, B: []byte{1}}, {Term: 2, Kind: api.EntryCommand, B: make([]byte, 801)}, {Term: 2, Kind: 3}, {Term: 0, Kind: api.EntryNone}, {Term: 3, Kind: api.EntryNone}, {Term: 1 << 41},
		{Term: 2, Kind: api.EntryMembers}, {Term: 2, Kind: api.EntryMembers, B: []byte{0}}, {Term: 2, Kind: api.EntryMembers, B: []byte{1, 16}}, {Term: 2, Kind: api.EntryMembers, B: []byte{2, 1, 0}}, {Term: 2, Kind: api.EntryMembers, B: []byte{1, 1, 1}},
	} {
		n, _ := opened(t, 1, upTo(3))
		before := n.Status()
		mustAnswer(t, n, handing(2, 0, 0, 0, e))
		mustAnswer(t, n, handing(2, 0, 0, 0, good, e))
		mustAnswer(t, n, handing(2, 0, 0, 0, e, good))
		if s := n.Status(); !sameStatus(s, before) || n.Dead() {
			t.Fatalf("behind %v it is %+v", e, s)
		}
	}
	n, _ := opened(t, 1, upTo(3))
	falls := handing(3, 0, 0, 0, ofTerms(2, 1)...)
	cut := handing(3, 0, 0, 0, ofTerms(2, 2)...)
	cut.L[0] = cut.L[0][:len(cut.L[0])-1]
	over := handing(3, 0, 0, 0, ofTerms(2, 2)...)
	over.L[0] = append(over.L[0], 0)
	for _, m := range []api.Msg{falls, cut, over, handing(3, 1, 3, 0, ofTerms(2)...)} {
		mustAnswer(t, n, m)
	}
	// A part of the entries in each list, and lists that have none.
	mustAnswer(t, n, api.Msg{Kind: api.MAppend, N: []int{3, 0, 0, 3}, L: [][]byte{nil, listOf(ofTerms(1, 2)...)[0], {}, listOf(good)[0]}}, 3, has, 0, 3)
	if list := n.Applied(); len(list) != 3 || list[1].E.Term != 2 || list[2].E.Kind != api.EntryNone {
		t.Fatalf("Applied: %v", list)
	}
}

// P17.1: the greatest index, and what is beyond it; states and members that aren't right.
func TestWrongSnapshots(t *testing.T) {
	for _, m := range []api.Msg{
		installing(5, 9, 6, nil, 0, 1), installing(5, 9, 5, make([]byte, 701), 0, 1), installing(5, 1<<40, 5, nil, 0, 1), installing(5, 1<<40+1, 5, nil, 0, 1), installing(5, 9, 5, nil), installing(5, 9, 5, nil, 1, 0), installing(5, 9, 5, nil, 16),
		{Kind: api.MInstall, N: []int{5, 9, 5}}, {Kind: api.MInstall, N: []int{5, 9, 5}, L: [][]byte{{1, 1}, {1, 1}}}, {Kind: api.MInstall, N: []int{0, 9, 0}, L: [][]byte{{1, 1}}},
	} {
		for _, members := range [][]int{nil, upTo(3)} {
			n, _ := opened(t, 1, members)
			before := n.Status()
			mustAnswer(t, n, m)
			if s := n.Status(); !sameStatus(s, before) || n.Dead() {
				t.Fatalf("behind %v it is %+v", m, s)
			}
		}
	}
	const most = 1<<40 - 1
	n, d := opened(t, 1, nil)
	mustAnswer(t, n, installing(5, most-1, 5, make([]byte, 700), 0, 1), 5, has, 0, most-1)
	mustAnswer(t, n, handing(5, most-1, 5, most, ofTerms(5, 5)...))
	mustAnswer(t, n, handing(5, 1<<40, 5, most, ofTerms(5, 5)...))
	mustAnswer(t, n, handing(5, most-1, 5, most, ofTerms(5)...), 5, has, most-1, most)
	for range 2 {
		if s := n.Status(); s.Last != most || n.Dead() || !slices.Equal(s.Members, upTo(2)) {
			t.Fatalf("it is %+v", s)
		}
		if b, index, ok := n.Restored(); len(b) != 700 || index != most-1 || !ok {
			t.Fatalf("Restored: %d bytes, %d, %v", len(b), index, ok)
		}
		n = reopened(t, 1, d, nil)
	}
}

// A term of 0 is none in which one leads or stands.
func TestNoTerm(t *testing.T) {
	n, _ := opened(t, 1, upTo(3))
	mustAnswer(t, n, handing(0, 0, 0, 0))
	mustAnswer(t, n, api.Msg{Kind: api.MVote, N: []int{0, 0, 0}})
	mustAnswer(t, n, installing(0, 0, 0, nil, 0, 1))
	if s := n.Status(); s.Leader != -1 || s.Term != 0 {
		t.Fatalf("it is %+v", s)
	}
}

// P17.1, P17.3: entries go, and others come in their place, whose terms are less than those of them that went: whenever the power fails, a beginning of either row is kept.
func TestOtherEntriesKept(t *testing.T) {
	was := []int{1, 3, 3, 3, 3, 3}
	comes := []int{1, 2, 2}
	for fuse := 0; ; fuse++ {
		dead := false
		for keep := range 4 {
			n, d := filled(t, 1, was...)
			d.Fuse(fuse)
			n.Handle(0, handing(4, 1, 1, 1, ofTerms(2, 2)...))
			if dead = n.Dead(); !dead {
				mustBe(t, termsOf(t, 1, d), comes)
				break
			}
			d.Boot([]int{keep * 20, 64, keep * 7})
			got := termsOf(t, 1, d)
			if !begins(was, got) && !begins(comes, got) {
				t.Fatalf("fuse %d: %v is kept", fuse, got)
			}
			// What went stays away, whatever comes in its place.
			n = reopened(t, 1, d, nil)
			n.Handle(0, handing(99, 1, 1, 1, ofTerms(2, 2)...))
			mustBe(t, termsOf(t, 1, d), comes)
		}
		if !dead {
			break
		}
	}
}

// P17.1, P17.3: the same, of a snapshot that comes in the place of entries, and of such as stand behind it.
func TestSnapshotKept(t *testing.T) {
	was := []int{1, 3, 3, 3, 3, 3}
	for fuse := 0; ; fuse++ {
		dead := false
		for keep := range 4 {
			n, d := filled(t, 1, was...)
			d.Fuse(fuse)
			n.Handle(0, installing(4, 4, 2, []byte("state"), 0, 1, 2, 3))
			if dead = n.Dead(); dead {
				d.Boot([]int{keep * 20, 64, keep * 7})
			}
			got := termsOf(t, 1, d)
			s := reopened(t, 1, d, nil).Status()
			if old := s.Commit == 0 && begins(was, got) && len(got) >= 3; !old && (s.Commit != 4 || len(got) != 0 || len(s.Members) != 4) || !dead && old {
				t.Fatalf("fuse %d: %v is kept: %+v", fuse, got, s)
			}
			v, _ := vault.Open(d)
			if many := len(v.Keys()); s.Commit == 4 && many != 2 {
				t.Fatalf("fuse %d: %d values are kept", fuse, many)
			}
			if !dead {
				break
			}
		}
		if !dead {
			break
		}
	}
}

// P17.1: the same, of a snapshot of its own: what stood up to it goes, at the latest when the node begins anew.
func TestOwnSnapshotKept(t *testing.T) {
	for fuse := 0; ; fuse++ {
		n, d := filled(t, 5, 1, 1, 1, 2, 2, 2)
		n.Applied()
		d.Fuse(fuse)
		e := n.Snapshot(4, []byte("state"))
		dead := n.Dead()
		if dead != (e != api.OK) {
			t.Fatalf("Snapshot: %v", e)
		}
		got := termsOf(t, 1, d)
		s := reopened(t, 1, d, nil).Status()
		v, _ := vault.Open(d)
		many := len(v.Keys())
		if old := s.Commit == 0 && len(got) == 6 && many == 8; !old && (s.Commit != 4 || len(got) != 2 || many != 4) || !dead && old {
			t.Fatalf("fuse %d: %v is kept, %d values: %+v", fuse, got, many, s)
		}
		if !dead {
			break
		}
	}
}

func begins(row, got []int) bool { return len(got) <= len(row) && slices.Equal(row[:len(got)], got) }

func mustBe(t *testing.T, got, want []int) {
	t.Helper()
	if !slices.Equal(got, want) {
		t.Fatalf("%v, not %v", got, want)
	}
}

// What a snapshot does that is behind, is there already, or is another one.
func TestSnapshotsThatCome(t *testing.T) {
	for _, x := range []struct {
		index, term  int
		last, commit int
		restored     bool
	}{
		{0, 0, 5, 2, false}, {1, 1, 5, 2, false}, {2, 2, 5, 2, false}, {2, 4, 5, 2, false}, // what is committed stays
		{3, 2, 5, 3, false}, {5, 4, 5, 5, false}, // all of it is there
		{3, 3, 3, 3, true}, {4, 2, 4, 4, true}, {5, 3, 5, 5, true}, {6, 4, 6, 6, true}, {100, 4, 100, 100, true},
	} {
		n, d := filled(t, 2, 1, 2, 2, 3, 4)
		n.Applied()
		m := installing(4, x.index, x.term, []byte("state"), 0, 1, 2, 9)
		mustAnswer(t, n, m, 4, has, 0, x.index)
		s := n.Status()
		if s.Last != x.last || s.Commit != x.commit || s.Leader != 0 || len(s.Members) == 4 != x.restored {
			t.Fatalf("behind %v it is %+v", m.N, s)
		}
		list := n.Applied()
		if want := x.commit - 2; !x.restored && len(list) != want || x.restored && list != nil {
			t.Fatalf("behind %v it applied %v", m.N, list)
		}
		if b, index, ok := n.Restored(); ok != x.restored || ok && (index != x.index || string(b) != "state") {
			t.Fatalf("behind %v it is restored: %v, %d", m.N, ok, index)
		}
		// The same once more.
		mustAnswer(t, n, m, 4, has, 0, x.index)
		if _, _, ok := n.Restored(); ok || !sameStatus(n.Status(), s) {
			t.Fatalf("behind a second one it is %+v", n.Status())
		}
		if x.restored {
			mustAnswer(t, n, handing(4, x.index, x.term, x.index+1, ofTerms(4)...), 4, has, x.index, x.index+1)
			if list := n.Applied(); len(list) != 1 || list[0].Index != x.index+1 {
				t.Fatalf("Applied: %v", list)
			}
			if s := reopened(t, 1, d, nil).Status(); s.Commit != x.index || s.Last != x.index+1 || len(s.Members) != 4 {
				t.Fatalf("it is %+v", s)
			}
		}
	}
}

// leader is a node 0 that leads three, in the term 1, with so many commands behind its first entry.
func leader(t *testing.T, many int) *raft.Node {
	t.Helper()
	n, _ := opened(t, 0, upTo(3))
	for range 13 {
		n.Tick()
	}
	n.Handle(1, api.Msg{Kind: api.MVoteOk, N: []int{1, given}})
	for i := range many {
		n.Propose([]byte{byte(i)})
	}
	if s := n.Status(); s.Role != api.Leader || s.Last != many+1 || s.Commit != 0 {
		t.Fatalf("it is %+v", s)
	}
	n.Out()
	return n
}

func answering(term, what, prev, index int) api.Msg {
	return api.Msg{Kind: api.MAppendOk, N: []int{term, what, prev, index}}
}

// handed is from where on a leader hands entries to a member, and how many; -1: nothing; -2: the snapshot.
func handed(t *testing.T, n *raft.Node, to int) (from, many int) {
	t.Helper()
	from = -1
	for _, p := range n.Out() {
		if p.To != to {
			continue
		}
		if from != -1 {
			t.Fatal("more than one message")
		}
		if p.M.Kind == api.MInstall {
			from = -2
			continue
		}
		from = p.M.N[1] + 1
		for _, list := range p.M.L {
			r := pack.Read(list)
			for r.End() != api.OK {
				r.Num(math.MaxInt)
				r.Num(math.MaxInt)
				r.Text(math.MaxInt)
				many++
			}
		}
	}
	return from, many
}

// A leader hands on at once to who lacks something, and not again when the same answer comes late.
func TestLeaderAnswered(t *testing.T) {
	n := leader(t, 5)
	must := func(m api.Msg, from, many, commit int) {
		t.Helper()
		n.Handle(2, m)
		if f, k := handed(t, n, 2); f != from || k != many || n.Status().Commit != commit {
			t.Fatalf("to %v: from %d on, %d, not from %d on, %d: %+v", m.N, f, k, from, many, n.Status())
		}
	}
	must(answering(1, has, 0, 3), 4, 3, 3)
	must(answering(1, has, 0, 3), -1, 0, 3)
	must(answering(1, has, 0, 2), -1, 0, 3)
	must(answering(1, passed, 0, 6), -1, 0, 3)
	must(answering(1, 3, 0, 6), -1, 0, 3)
	must(answering(1, has, 0, 7), -1, 0, 3)
	must(answering(1, has, 0, 1<<40), -1, 0, 3)
	must(answering(1, lacks, 0, 1), -1, 0, 3)
	must(answering(1, lacks, 3, 1), -1, 0, 3)
	must(answering(1, has, 0, 6), -1, 0, 6)
	n.Propose(nil)
	if f, k := handed(t, n, 2); f != 7 || k != 1 {
		t.Fatalf("from %d on, %d", f, k)
	}

	// One that lacks all: less and less far on.
	n = leader(t, 5)
	must(answering(1, lacks, 0, 1), -2, 0, 0) // nothing is ahead of that
	must(answering(1, lacks, 0, 1), -1, 0, 0)
	n.Handle(1, answering(1, has, 0, 6))
	n.Out()
	n.Applied()
	if e := n.Snapshot(3, nil); e != api.OK {
		t.Fatal(e)
	}
	for range 3 {
		n.Tick()
	}
	if f, _ := handed(t, n, 2); f != -2 {
		t.Fatalf("from %d on", f)
	}
	must(answering(1, has, 0, 3), 4, 3, 6)
}

// A leader that began with a log: the member says from where on it lacks entries.
func TestLeaderIsToldWhatLacks(t *testing.T) {
	again := func() *raft.Node {
		n, d := filled(t, 9, 1, 1, 1, 1, 1, 1, 1, 1, 1)
		n.Applied()
		n.Snapshot(3, nil)
		n = reopened(t, 1, d, nil)
		for range 20 {
			n.Tick()
		}
		n.Out()
		n.Handle(0, api.Msg{Kind: api.MVoteOk, N: []int{2, given}})
		if f, k := handed(t, n, 2); f != 10 || k != 1 || n.Status().Role != api.Leader {
			t.Fatalf("from %d on, %d: %+v", f, k, n.Status())
		}
		return n
	}
	for _, x := range []struct {
		prev, index int
		from, many  int
	}{{9, 8, 8, 3}, {9, 4, 4, 7}, {9, 3, 4, 7}, {9, 1, 4, 7}, {9, 0, 4, 7}, {8, 5, -1, 0}, {3, 1, -1, 0}, {10, 5, -1, 0}} {
		n := again()
		n.Handle(2, answering(2, lacks, x.prev, x.index))
		if f, k := handed(t, n, 2); f != x.from || k != x.many {
			t.Fatalf("%v: from %d on, %d", x, f, k)
		}
		n.Handle(2, answering(2, lacks, x.prev, x.index))
		if f, _ := handed(t, n, 2); f != -1 {
			t.Fatalf("%v: the same answer: from %d on", x, f)
		}
		if x.from != 4 {
			continue
		}
		n.Handle(2, answering(2, lacks, 3, 1))
		if f, _ := handed(t, n, 2); f != -2 {
			t.Fatalf("%v: from %d on", x, f)
		}
		n.Handle(2, answering(2, lacks, 3, 1))
		n.Handle(2, answering(2, lacks, 2, 1))
		n.Handle(2, answering(2, lacks, 9, 1))
		if f, _ := handed(t, n, 2); f != -1 {
			t.Fatalf("%v: from %d on", x, f)
		}
		n.Handle(2, answering(2, has, 0, 3))
		if f, k := handed(t, n, 2); f != 4 || k != 7 {
			t.Fatalf("%v: from %d on, %d", x, f, k)
		}
	}
}

// P17.3: what a majority has of an older term alone isn't committed: another one may lead that lacks it.
func TestOlderTermIsNotCommitted(t *testing.T) {
	w := newWorld(t, 1, 4096, upTo(3), upTo(3))
	w.fair(13)
	w.cut = func(from, to int) bool { return true }
	for range 100 {
		w.mustPropose(0, strings.Repeat("x", 800))
	}
	w.boot(w.seat(0), nil)
	w.cut = func(from, to int) bool { return from == 2 || to == 2 }
	w.seat(2).down = true
	for w.node(0).Status().Role != api.Leader {
		w.now++
		tick(w, 0, 1)
		tick(w, 1, 1)
		for len(w.letters) > 0 && w.node(0).Status().Role != api.Leader {
			l := w.letters[0]
			w.letters = w.letters[1:]
			w.come(l)
		}
	}
	parts := 0
	for len(w.letters) > 0 {
		l := w.letters[0]
		w.letters = w.letters[1:]
		w.come(l)
		had, s := w.node(1).Status().Last, w.node(0).Status()
		if s.Commit != 0 && s.Commit != 102 || s.Commit > had {
			t.Fatalf("1 has %d, and 0 committed %d", had, s.Commit)
		}
		if s.Commit == 0 && had > 1 && had < 102 {
			parts++
		}
	}
	if parts < 2 || w.seat(0).told != 102 {
		t.Fatalf("%d parts, applied up to %d", parts, w.seat(0).told)
	}
}

// asking is of one that stands, and whose log ends so.
func asking(term, lastTerm, last int) api.Msg {
	return api.Msg{Kind: api.MVote, N: []int{term, lastTerm, last}}
}

// Whether a vote is given, and whether it would be later.
func TestVotesAsked(t *testing.T) {
	type ask struct {
		from int
		m    api.Msg
		what int
		term int
	}
	for i, row := range [][]ask{
		{{0, asking(3, 2, 2), given, 3}, {0, asking(3, 2, 2), given, 3}, {2, asking(3, 2, 2), withheld, 3}, {2, asking(3, 2, 3), later, 3}, {2, asking(3, 3, 1), later, 3}, {2, asking(4, 2, 2), given, 4}},
		{{0, asking(3, 2, 1), withheld, 3}, {2, asking(3, 1, 9), withheld, 3}, {2, asking(3, 2, 2), given, 3}},
		{{0, asking(9, 1, 1), withheld, 9}, {2, asking(3, 2, 2), later, 9}, {2, asking(3, 2, 1), withheld, 9}, {0, asking(9, 2, 2), given, 9}, {2, asking(3, 2, 2), withheld, 9}, {2, asking(3, 2, 3), later, 9}},
		{{0, asking(3, 5, 1), given, 3}, {2, asking(3, 4, 9), withheld, 3}, {2, asking(3, 5, 2), later, 3}},
		{{0, asking(2, 2, 2), given, 2}, {2, asking(2, 2, 2), withheld, 2}, {2, asking(1, 2, 9), later, 2}},
		{{15, asking(3, 2, 2), given, 3}, {0, asking(2, 2, 2), withheld, 3}},
	} {
		n, d := filled(t, 0, 1, 2)
		for range 10 {
			n.Tick() // so that 0 leads no more, as far as it knows
		}
		for k, a := range row {
			n.Handle(a.from, a.m)
			out := n.Out()
			if len(out) != 1 || out[0].To != a.from || out[0].M.Kind != api.MVoteOk || !slices.Equal(out[0].M.N, []int{a.term, a.what}) {
				t.Fatalf("row %d, %d: %v", i, k, out)
			}
			if s := n.Status(); s.Leader != -1 && (a.what == given || s.Term != 2) {
				t.Fatalf("row %d, %d: it is %+v", i, k, s)
			}
		}
		// Behind a crash it isn't known how new the log was of who was voted for.
		term := n.Status().Term
		n = reopened(t, 1, d, nil)
		for _, last := range []int{1, 2, 3, 1 << 40} {
			n.Handle(3, asking(term, 2, last))
			if out := n.Out(); !slices.Equal(out[0].M.N, []int{term, withheld}) {
				t.Fatalf("row %d: %v", i, out)
			}
		}
	}
}

// As long as a leader is heard of, who is no member isn't voted for, and ends nobody's term.
func TestVotesWhileOneLeads(t *testing.T) {
	for ticks := range 20 {
		for _, from := range []int{2, 3, 15} {
			n, _ := filled(t, 0, 1, 2)
			for range ticks {
				n.Tick()
			}
			n.Handle(from, asking(5, 2, 2))
			s, out := n.Status(), n.Out()
			if what := []int{withheld, later}[max(0, min(1, ticks-6))]; from == 2 {
				// In a term that is over: who leads isn't to be ended by that, either.
				old, _ := filled(t, 0, 1, 2)
				for range ticks {
					old.Tick()
				}
				old.Handle(from, asking(1, 2, 9))
				if out := old.Out(); len(out) != 1 || !slices.Equal(out[0].M.N, []int{2, what}) {
					t.Fatalf("%d ticks behind hearing of it: %v", ticks, out)
				}
			}
			if heeds := from == 2 || ticks > 6; heeds != (len(out) == 1 && s.Term == 5) || heeds == (out == nil && s.Term == 2 && s.Leader == 0) {
				t.Fatalf("%d asks %d ticks behind hearing of it: %v, %+v", from, ticks, out, s)
			}
		}
	}
	// A leader itself, as long as it hears of a majority.
	for ticks := range 20 {
		for _, from := range []int{2, 3, 15} {
			n := leader(t, 3)
			for range ticks {
				n.Tick()
				if ticks%2 == 1 {
					n.Handle(1, answering(1, has, 0, 1))
				}
				n.Out()
			}
			n.Handle(from, asking(5, 2, 2))
			if s := n.Status(); (from == 2 || ticks > 6 && ticks%2 == 0) != (s.Term == 5 && s.Role == api.Follower) {
				t.Fatalf("%d asks behind %d ticks: %+v", from, ticks, s)
			}
		}
	}
}

// A candidate: votes count once each, of members, of its term; who would be voted for later stands again.
func TestVotesTold(t *testing.T) {
	told := func(term, what int) api.Msg { return api.Msg{Kind: api.MVoteOk, N: []int{term, what}} }
	standing := func() *raft.Node {
		n, _ := opened(t, 2, upTo(5))
		for range 27 {
			n.Tick()
		}
		n.Out()
		return n
	}
	for i, x := range []struct {
		from       []int
		m          api.Msg
		role, term int
		asks       int
	}{
		{[]int{0}, told(1, given), api.Candidate, 1, 0},
		{[]int{0, 0, 0, 2, 9, 16, -1}, told(1, given), api.Candidate, 1, 0},
		{[]int{0, 4}, told(1, given), api.Leader, 1, 4},
		{[]int{0, 4}, told(1, withheld), api.Candidate, 1, 0},
		{[]int{0, 4}, told(2, given), api.Follower, 2, 0},
		{[]int{0, 4}, told(2, withheld), api.Follower, 2, 0},
		{[]int{9, 15}, told(7, withheld), api.Candidate, 1, 0},
		{[]int{9, 15}, told(7, later), api.Candidate, 1, 0},
		{[]int{0}, told(1, later), api.Candidate, 2, 4},
		{[]int{0, 0, 4}, told(1, later), api.Candidate, 2, 4},
		{[]int{3}, told(7, later), api.Candidate, 8, 4},
		{[]int{3, 1}, told(7, later), api.Candidate, 8, 4},
		{[]int{3}, told(1<<40, later), api.Follower, 1 << 40, 0},
		{[]int{3, 1}, told(1, 3), api.Candidate, 1, 0},
	} {
		n := standing()
		for _, from := range x.from {
			n.Handle(from, x.m)
		}
		if s, asks := n.Status(), len(n.Out()); s.Role != x.role || s.Term != x.term || asks != x.asks {
			t.Fatalf("%d: %d asked, %+v", i, asks, s)
		}
	}
	// Who let itself go, and stands once more, isn't made the leader of a term in which it doesn't stand.
	n, d := opened(t, 0, upTo(2))
	for range 13 {
		n.Tick()
	}
	n.Handle(1, told(1, given))
	n.Handle(1, answering(1, has, 0, 1))
	if e := n.Change(false, 0); e != api.OK {
		t.Fatal(e)
	}
	for i, x := range []struct{ term, what, role int }{{7, given, api.Follower}, {2, given, api.Leader}} {
		n = reopened(t, 0, d, nil)
		for range 13 {
			n.Tick()
		}
		if s := n.Status(); s.Role != api.Candidate || !slices.Equal(s.Members, []int{1}) {
			t.Fatalf("%d: it is %+v", i, s)
		}
		n.Handle(1, told(max(x.term, n.Status().Term), x.what))
		if s := n.Status(); s.Role != x.role {
			t.Fatalf("%d: it is %+v", i, s)
		}
	}
	// Who stands no more isn't told anything by it.
	n, _ = opened(t, 2, upTo(5))
	for _, from := range upTo(5) {
		n.Handle(from, told(3, later))
		n.Handle(from, told(3, given))
	}
	if s := n.Status(); s.Role != api.Follower || s.Term != 3 || n.Out() != nil {
		t.Fatalf("it is %+v", s)
	}
}

// Of whom a leader doesn't take for a member, no answer ends it.
func TestAnswersOfOthers(t *testing.T) {
	n := leader(t, 1)
	n.Handle(1, answering(1, has, 0, 2))
	if e := n.Change(false, 2); e != api.OK {
		t.Fatal(e)
	}
	for _, from := range []int{2, 5} {
		n.Handle(from, answering(9, passed, 0, 0))
		n.Handle(from, answering(1, has, 0, 3))
	}
	if s := n.Status(); s.Role != api.Leader || s.Commit != 2 {
		t.Fatalf("it is %+v", s)
	}
	n.Handle(1, answering(9, passed, 0, 0))
	if s := n.Status(); s.Role != api.Follower || s.Term != 9 || s.Leader != -1 {
		t.Fatalf("it is %+v", s)
	}
}

// Who led, and let itself go, hands nothing on when that is committed.
func TestGoneHandsNothing(t *testing.T) {
	n := leader(t, 0)
	n.Handle(1, answering(1, has, 0, 1))
	if e := n.Change(false, 0); e != api.OK {
		t.Fatal(e)
	}
	n.Propose([]byte("more"))
	n.Handle(1, answering(1, has, 0, 2))
	n.Out()
	n.Handle(2, answering(1, has, 0, 2))
	if s := n.Status(); s.Role != api.Follower || s.Commit != 2 || s.Last != 3 || n.Out() != nil {
		t.Fatalf("it is %+v", s)
	}
}

// Who comes again isn't known to have anything.
func TestComesAgain(t *testing.T) {
	n := leader(t, 0)
	for _, from := range []int{1, 2} {
		n.Handle(from, answering(1, has, 0, 1))
	}
	for i, add := range []bool{false, true} {
		if e := n.Change(add, 2); e != api.OK {
			t.Fatal(e)
		}
		n.Handle(1, answering(1, has, 0, 2+i))
	}
	n.Propose(nil)
	n.Propose(nil)
	n.Handle(1, answering(1, has, 0, 5))
	n.Out()
	// A majority of three has all, and needs no answer of 2; but that one is handed all that it says that it lacks.
	n.Handle(2, answering(1, lacks, 2, 1))
	if f, k := handed(t, n, 2); f != 1 || k != 5 || n.Status().Commit != 5 {
		t.Fatalf("from %d on, %d: %+v", f, k, n.Status())
	}
}

// A snapshot of its own comes in the place of one that wasn't told; what was told may be written over.
func TestRestoredOnce(t *testing.T) {
	n, d := leading(t, 0)
	n.Applied()
	n.Snapshot(1, []byte("first"))
	n = reopened(t, 0, d, nil)
	if e := n.Snapshot(1, []byte("second")); e != api.OK {
		t.Fatal(e)
	}
	if _, _, ok := n.Restored(); ok {
		t.Fatal("it is told")
	}
	n = reopened(t, 0, d, nil)
	b, _, _ := n.Restored()
	if string(b) != "second" {
		t.Fatalf("Restored: %q", b)
	}
	clear(b)
	for range 13 {
		n.Tick()
	}
	n.Change(true, 1)
	n.Out()
	n.Handle(1, answering(2, lacks, 2, 0))
	n.Out()
	n.Handle(1, answering(2, lacks, 1, 0))
	out := n.Out()
	if len(out) != 1 || out[0].M.Kind != api.MInstall || string(out[0].M.B) != "second" {
		t.Fatalf("it hands on %v", out)
	}
	// Nor is what is sent shared with what is kept.
	clear(out[0].M.B)
	clear(out[0].M.L[0])
	for range 3 {
		n.Tick()
	}
	if again := n.Out(); string(again[0].M.B) != "second" || !bytes.Equal(again[0].M.L[0], quorum.Bytes([]int{0})) {
		t.Fatalf("it hands on %v", again)
	}
}
