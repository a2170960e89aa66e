package raft_test

import (
	"bytes"
	"math"
	"math/rand"
	"slices"
	"testing"

	"dotterel/api"
	"dotterel/raft"
	"dotterel/sector"
	"dotterel/vault"
)

// strange are numbers at the edges of what a message, a term, and an index may be.
var strange = []int{math.MinInt, -1, 0, 1, 2, 3, 4, 5, 7, 15, 16, 255, 1 << 20, 1 << 31, 1<<32 + 1, 1<<40 - 2, 1<<40 - 1, 1 << 40, 1<<40 + 1, 1 << 61, 1 << 62, 1<<62 + 1, math.MaxInt}

// watched is a node of which terms and commits are held against what they were.
type watched struct {
	n            *raft.Node
	d            *sector.Device
	term, commit int
	told         int
	applied      map[int]api.Entry
}

func (x *watched) look(t *testing.T) {
	t.Helper()
	s := x.n.Status()
	if s.Term < x.term || s.Commit < x.commit || s.Last < s.Commit || s.Term > 1<<40 {
		t.Fatalf("%+v behind term %d, commit %d", s, x.term, x.commit)
	}
	x.term, x.commit = s.Term, s.Commit
	if x.n.Dead() {
		return
	}
	if b, index, ok := x.n.Restored(); ok {
		if index < x.told || len(b) > 700 {
			t.Fatalf("restored at %d behind %d, with %d bytes", index, x.told, len(b))
		}
		x.told = index
	}
	for _, a := range x.n.Applied() {
		if x.told++; a.Index != x.told || a.E.Term < 1 || a.E.Kind < api.EntryNone || a.E.Kind > api.EntryMembers || len(a.E.B) > 800 {
			t.Fatalf("%v is applied behind %d", a, x.told-1)
		}
	}
	if x.told != s.Commit {
		t.Fatalf("applied up to %d of %d", x.told, s.Commit)
	}
}

// again begins the node anew.
func (x *watched) again(t *testing.T) {
	t.Helper()
	x.d.Boot(nil)
	v, e := vault.Open(x.d)
	if e != api.OK {
		t.Fatal(e)
	}
	x.n, e = raft.New(1, v, nil)
	if e != api.OK {
		t.Fatalf("New: %v", e)
	}
	x.commit, x.told = 0, 0
	x.look(t)
}

// captured are messages that nodes of this program sent.
func captured(t *testing.T) []api.Msg {
	t.Helper()
	var ms []api.Msg
	for seed := range 6 {
		c := chaos{sectors: 1024, ids: upTo(4), members: upTo(3), lose: 100, double: 100, old: 50, propose: 100, change: 50, snapshot: 60, tick: 600}
		w := c.run(t, int64(seed), 0)
		w.sent = func(m api.Msg) { ms = append(ms, m) }
		for step := range 600 {
			if step%100 == 0 {
				w.cut = parted(w.r.Perm(16), w.r.Intn(3))
			}
			s := w.seats[w.r.Intn(4)]
			w.step(s, (*raft.Node).Tick)
			c.use(w, s, s.n, func(many int) bool { return w.r.Intn(1000) < many })
			w.settle()
		}
	}
	return ms
}

// bent is a message with something else in it.
func bent(r *rand.Rand, m api.Msg, ms []api.Msg) api.Msg {
	m.N, m.B = slices.Clone(m.N), bytes.Clone(m.B)
	lists := m.L
	m.L = nil
	for _, list := range lists {
		m.L = append(m.L, bytes.Clone(list))
	}
	other := ms[r.Intn(len(ms))]
	for range 1 + r.Intn(3) {
		i := r.Intn(5)
		switch r.Intn(12) {
		case 0:
			m.Kind = 1 + r.Intn(5)
		case 1:
			m.Kind = strange[r.Intn(len(strange))]
		case 2:
			m.N = m.N[:r.Intn(len(m.N)+1)]
		case 3:
			m.N = append(m.N, r.Intn(5))
		case 4:
			m.L = other.L
		case 5:
			m.L = append(m.L, other.L...)
		case 6:
			if len(m.L) > 0 && len(m.L[0]) > 0 {
				m.L[0][r.Intn(len(m.L[0]))] += byte(1 + r.Intn(255))
			}
		case 7:
			m.B = make([]byte, r.Intn(3)*500)
		case 8:
			m.N = slices.Clone(other.N)
		default:
			if i < len(m.N) {
				if m.N[i] += r.Intn(5) - 2; r.Intn(100) == 0 {
					m.N[i] = strange[r.Intn(len(strange))]
				}
			}
		}
	}
	return m
}

// P17.1, P1: whatever messages come, whoever made them: the term never falls, nor does the committed index, and no call panics.
func TestAnyMessages(t *testing.T) {
	ms := captured(t)
	kinds := map[int]int{}
	for _, m := range ms {
		kinds[m.Kind]++
	}
	if len(kinds) != 5 {
		t.Fatalf("there are messages of the kinds %v", kinds)
	}
	leads, commits, dead := 0, 0, 0
	for seed := range 150 {
		r := rand.New(rand.NewSource(int64(seed)))
		x := &watched{}
		members := []int{0, 1, 2}
		if seed%5 == 0 {
			members = nil
		}
		x.n, x.d = opened(t, 1, members)
		for step := range 800 {
			m := ms[r.Intn(len(ms))]
			if r.Intn(3) > 0 {
				m = bent(r, m, ms)
			}
			if leader := m.Kind == api.MAppend || m.Kind == api.MInstall; leader && step/80%2 == 1 {
				m.Kind = api.MAppendOk - r.Intn(2)*2
			}
			from := []int{0, 2, 2, 3}[r.Intn(4)]
			if r.Intn(10) == 0 {
				from = wrongIds[r.Intn(len(wrongIds))]
			}
			if len(m.N) > 0 && r.Intn(3) > 0 {
				// Of a term that isn't over.
				m.N = slices.Clone(m.N)
				m.N[0] = x.term + r.Intn(10)/9
			}
			x.n.Handle(from, m)
			x.look(t)
			if r.Intn(2) == 0 {
				x.n.Tick()
				x.look(t)
			}
			if x.n.Status().Role == api.Leader {
				leads++
				x.n.Propose([]byte("mine"))
				x.n.Change(r.Intn(2) == 0, r.Intn(16))
				x.look(t)
			}
			if r.Intn(20) == 0 {
				x.n.Snapshot(x.told, []byte("state"))
				x.look(t)
			}
			if r.Intn(100) == 0 || x.n.Dead() {
				if x.n.Dead() {
					dead++
				}
				commits += x.commit
				x.again(t)
			}
			x.n.Out()
		}
	}
	t.Logf("led %d times, committed %d, dead %d", leads, commits, dead)
	if leads < 100 || commits < 1000 {
		t.Errorf("led %d times, committed %d, dead %d", leads, commits, dead)
	}
}

// P1: messages of any parts.
func TestAnyParts(t *testing.T) {
	r := rand.New(rand.NewSource(1))
	n, _ := opened(t, 1, []int{0, 1, 2})
	x := &watched{n: n}
	number := func() int { return strange[r.Intn(len(strange))] }
	for range 20000 {
		m := api.Msg{Kind: r.Intn(8) - 1}
		for range r.Intn(19) {
			m.N = append(m.N, number())
		}
		if r.Intn(3) == 0 {
			m.B = make([]byte, r.Intn(4)*700)
		}
		for range r.Intn(3) {
			m.L = append(m.L, make([]byte, r.Intn(4)))
		}
		if r.Intn(1000) == 0 {
			m.L = make([][]byte, 70)
		}
		x.n.Handle(r.Intn(20)-2, m)
		x.look(t)
		x.n.Tick()
		x.n.Out()
	}
}

// What no node sends counts for nothing: messages that aren't right, of kinds that are none of raft's, from who is no node, or from itself.
func TestCountsForNothing(t *testing.T) {
	for _, m := range captured(t) {
		if m.Kind != api.MAppend && m.Kind != api.MInstall && m.Kind != api.MVote {
			continue
		}
		m.N = slices.Clone(m.N)
		m.N[0] = 7
		wrong := []api.Msg{
			{}, {Kind: m.Kind}, {Kind: 0, N: m.N, B: m.B, L: m.L}, {Kind: 6, N: m.N, B: m.B, L: m.L}, {Kind: 10, N: m.N, B: m.B, L: m.L}, {Kind: -m.Kind, N: m.N, B: m.B, L: m.L},
			{Kind: m.Kind, N: append(slices.Clone(m.N), 0), B: m.B, L: m.L}, {Kind: m.Kind, N: m.N[:len(m.N)-1], B: m.B, L: m.L}, {Kind: m.Kind, N: m.N, B: make([]byte, 2049), L: m.L},
			{Kind: m.Kind, N: m.N, B: m.B, L: make([][]byte, 65)}, {Kind: m.Kind, N: m.N, B: m.B, L: [][]byte{make([]byte, 2049)}},
		}
		for i := range m.N {
			for _, x := range []int{-1, 1<<40 + 1, 1<<62 + 1} {
				w := api.Msg{Kind: m.Kind, N: slices.Clone(m.N), B: m.B, L: m.L}
				w.N[i] = x
				wrong = append(wrong, w)
			}
		}
		n, _ := opened(t, 1, []int{0, 1, 2})
		before := n.Status()
		for _, w := range wrong {
			n.Handle(0, w)
		}
		for _, from := range append(slices.Clone(wrongIds), 1) {
			n.Handle(from, m)
		}
		if s := n.Status(); !sameStatus(s, before) || n.Out() != nil {
			t.Fatalf("behind wrong ones like %v it is %+v", m, s)
		}
		if n.Handle(0, m); n.Status().Term != 7 || len(n.Out()) != 1 {
			t.Fatalf("behind %v it is %+v", m, n.Status())
		}
	}
}

// P17.1: a leader isn't ended by a letter of its own term that says that another one leads.
func TestNoOtherLeads(t *testing.T) {
	w := newWorld(t, 1, 512, upTo(3), upTo(3))
	w.fair(13)
	w.mustPropose(0, "a")
	for _, l := range w.letters {
		w.node(0).Handle(2, l.m)
	}
	if s := w.node(0).Status(); s.Role != api.Leader || s.Leader != 0 {
		t.Fatalf("it is %+v", s)
	}
}

// The greatest term is the last one: nobody stands behind it.
func TestGreatestTerm(t *testing.T) {
	var vote api.Msg
	other, _ := opened(t, 0, upTo(2))
	for range 13 {
		other.Tick()
	}
	vote = other.Out()[0].M
	vote.N[0] = 1 << 40
	n, d := opened(t, 1, upTo(2))
	n.Handle(0, vote)
	for range 2 {
		for range 100 {
			n.Tick()
		}
		if s := n.Status(); s.Term != 1<<40 || s.Role != api.Follower || n.Dead() {
			t.Fatalf("it is %+v", s)
		}
		n = reopened(t, 1, d, nil)
	}
	// One term ahead of it one stands, leads, and goes on.
	n, d = opened(t, 1, []int{1})
	vote.N[0] = 1<<40 - 1
	n.Handle(0, vote)
	for range 20 {
		n.Tick()
	}
	if _, term, e := n.Propose([]byte("last")); term != 1<<40 || e != api.OK {
		t.Fatalf("Propose: %d, %v", term, e)
	}
	n = reopened(t, 1, d, nil)
	if s := n.Status(); s.Term != 1<<40 || s.Last != 2 || n.Dead() {
		t.Fatalf("it is %+v", s)
	}
}
