package raft_test

import (
	"math/rand"
	"slices"
	"strconv"
	"testing"

	"dotterel/api"
	"dotterel/raft"
)

// someIds are numbers of nodes, rising.
func someIds(r *rand.Rand, many int) []int {
	ids := r.Perm(16)[:many]
	slices.Sort(ids)
	return ids
}

// mustGoOn holds that behind 400 ticks a member leads, and that what it is proposed is applied by all members who are up behind 60 more.
func (w *world) mustGoOn() {
	w.t.Helper()
	w.fair(400)
	s := w.leader()
	if s == nil || !slices.Contains(s.n.Status().Members, s.id) {
		for _, s := range w.seats {
			w.t.Logf("node %d, down: %v: %+v", s.id, s.down, s.n.Status())
		}
		w.t.Fatal("behind 400 ticks no member leads")
	}
	index := w.mustPropose(s.id, "on")
	term := s.n.Status().Term
	w.fair(60)
	if e := w.entries[index]; string(e.B) != "on" || e.Term != term {
		w.t.Fatalf("what was proposed at %d in the term %d isn't applied: %v", index, term, e)
	}
	for _, id := range s.n.Status().Members {
		if m := w.seat(id); !m.down && m.told < index {
			w.t.Fatalf("node %d applied up to %d, not %d: %+v; %d leads: %+v", id, m.told, index, m.n.Status(), s.id, s.n.Status())
		}
	}
}

// heal lets all who aren't in down be up, and letters come within a tick.
func (w *world) heal(late int, down ...int) {
	w.t.Helper()
	w.cut, w.late = nil, late
	for i := range w.letters {
		w.letters[i].due = w.now + w.r.Intn(late+1)
	}
	for _, s := range w.seats {
		s.d.Fuse(-1)
		if slices.Contains(down, s.id) {
			s.down = true
		} else if s.down || s.n.Dead() || w.r.Intn(3) == 0 {
			w.boot(s, nil)
		}
	}
}

// P17.4: behind whatever happened, with a majority up.
func TestLive(t *testing.T) {
	for seed := range 120 {
		r := rand.New(rand.NewSource(int64(seed)))
		ids := someIds(r, 1+r.Intn(7))
		c := chaos{sectors: 1024, ids: ids, members: ids, lose: 300, double: 100, old: 50, crash: 5, fuse: 5, propose: 100, snapshot: 20, tick: 800}
		w := c.run(t, int64(seed), 2000)
		gone := r.Perm(len(ids))[:r.Intn((len(ids)+1)/2)]
		for i := range gone {
			gone[i] = ids[gone[i]]
		}
		w.heal(seed%2, gone...)
		w.mixed = seed%4 > 1
		w.mustGoOn()
	}
}

// P17.4: behind changes of the members, some of which aren't told that they are none any more.
func TestLiveChanges(t *testing.T) {
	for seed := range 120 {
		r := rand.New(rand.NewSource(int64(seed)))
		ids := someIds(r, 2+r.Intn(5))
		c := chaos{sectors: 1024, ids: ids, members: ids[:1+r.Intn(len(ids))], lose: 200, double: 100, old: 20, crash: 5, fuse: 5, propose: 50, change: 100, snapshot: 20, tick: 500}
		w := c.run(t, int64(seed), 4000)
		w.heal(seed % 2)
		w.mixed = seed%4 > 1
		w.mustGoOn()
	}
}

// P17.4: one alone leads just then, and applies at once; so it does when it begins anew.
func TestAlone(t *testing.T) {
	for id := range 16 {
		w := newWorld(t, 1, 256, []int{id}, []int{id})
		for again := range 3 {
			w.fair(13 + 7*id - 1)
			if st := w.node(id).Status(); st.Role != api.Follower || st.Term != again || st.Leader != -1 || st.Commit != 0 {
				t.Fatalf("%d is %+v ahead of its tick", id, st)
			}
			w.fair(1)
			w.mustLead(id, again+1)
			for i := range 3 {
				index := w.mustPropose(id, strconv.Itoa(i))
				if index != 4*again+i+2 || w.top != index {
					t.Fatalf("%d applied up to %d, not %d", id, w.top, index)
				}
			}
			if out := w.node(id).Out(); out != nil {
				t.Fatalf("%d sends %v", id, out)
			}
			w.boot(w.seat(id), nil)
		}
	}
}

// P17.4: of those who began at one time the one of the least number leads, just then and from then on.
func TestHowSoon(t *testing.T) {
	for seed := range 60 {
		r := rand.New(rand.NewSource(int64(seed)))
		ids := someIds(r, 1+r.Intn(7))
		w := newWorld(t, int64(seed), 1024, ids, ids)
		if seed%3 == 0 {
			w.seats = slices.Clone(w.seats)
			slices.Reverse(w.seats)
		}
		w.fair(13 + 7*ids[0] - 1)
		if w.leader() != nil {
			t.Fatal("one leads ahead of its tick")
		}
		w.fair(1)
		for i := range 100 {
			w.mustLead(ids[0], 1)
			if r.Intn(3) > 0 {
				index := w.mustPropose(ids[0], strconv.Itoa(i))
				w.settle()
				if w.seat(ids[0]).told != index {
					t.Fatalf("not applied within the tick: %d of %d", w.seat(ids[0]).told, index)
				}
				if r.Intn(2) == 0 {
					w.fair(4)
					for _, s := range w.seats {
						if s.told != index {
							t.Fatalf("%d isn't applied by %d within 4 ticks", index, s.id)
						}
					}
				}
			}
			w.fair(r.Intn(5))
		}
	}
}

// P17.4: letters come as soon as they are sent, ahead of the others' tick.
func TestHowSoonAtOnce(t *testing.T) {
	for _, ids := range [][]int{{0, 1, 2}, {2, 1, 0}, {4, 9, 15}, {15, 9, 4}} {
		members := slices.Sorted(slices.Values(ids))
		w := newWorld(t, 1, 1024, ids, members)
		for tick := range 200 {
			if lead := 13 + 7*members[0]; tick >= lead {
				w.mustLead(members[0], 1)
			}
			for _, s := range w.seats {
				w.step(s, (*raft.Node).Tick)
				w.settle()
			}
		}
	}
}

// When nodes stand: so many ticks behind what they heard last of who leads, or voted.
func TestWhoStandsNext(t *testing.T) {
	w := newWorld(t, 1, 512, upTo(4), upTo(4))
	w.fair(13)
	w.mustLead(0, 1)
	w.fair(3) // they hear of it once more
	w.seat(0).down = true
	w.fair(19)
	if s := w.node(1).Status(); s.Role != api.Follower || s.Term != 1 || s.Leader != 0 {
		t.Fatalf("ahead of its tick: %+v", s)
	}
	w.fair(1)
	w.mustLead(1, 2)
	w.fair(2)
	w.seat(1).down = true
	w.fair(60)
	if s := w.node(2).Status(); s.Role != api.Candidate || s.Term != 4 || s.Leader != -1 {
		t.Fatalf("one of two others of four: %+v", s)
	}
	w.open(w.seat(0), nil)
	w.fair(40)
	if w.leader() == nil {
		t.Fatal("nobody leads")
	}
}

// A vote that is given begins the wait anew; one that isn't doesn't.
func TestVotesAndWaits(t *testing.T) {
	for _, given := range []bool{true, false} {
		voter, _ := opened(t, 1, upTo(3))
		asker, _ := opened(t, 0, upTo(3))
		if !given {
			// A vote for another one in this term.
			other, _ := opened(t, 2, upTo(3))
			for range 27 {
				other.Tick()
			}
			voter.Handle(2, other.Out()[1].M)
		}
		for range 13 {
			asker.Tick()
			voter.Tick()
		}
		voter.Out()
		for _, p := range asker.Out() {
			if p.To == 1 {
				voter.Handle(0, p.M)
			}
		}
		wait := 7
		if given {
			wait = 20
		}
		for i := range wait {
			if s := voter.Status(); s.Role != api.Follower || s.Term != 1 {
				t.Fatalf("given: %v: behind %d ticks %+v", given, i, s)
			}
			voter.Tick()
		}
		if s := voter.Status(); s.Role != api.Candidate || s.Term != 2 {
			t.Fatalf("given: %v: %+v", given, s)
		}
	}
}

// A leader hands entries on when it begins to lead, at each third tick, and when it is proposed something.
func TestHandsOn(t *testing.T) {
	w := newWorld(t, 1, 512, []int{0, 1, 2}, upTo(3))
	w.fair(12)
	w.cut = func(from, to int) bool { return false }
	kinds := func() (list []int) {
		for _, p := range w.node(0).Out() {
			list = append(list, p.M.Kind, p.To)
		}
		return list
	}
	w.node(0).Tick()
	asks := w.node(0).Out()
	if len(asks) != 2 || asks[0].M.Kind != api.MVote || asks[0].To != 1 || asks[1].M.Kind != api.MVote || asks[1].To != 2 {
		t.Fatalf("it asks %v", asks)
	}
	w.node(1).Handle(0, asks[0].M)
	w.node(0).Handle(1, w.node(1).Out()[0].M)
	both := []int{api.MAppend, 1, api.MAppend, 2}
	if got := kinds(); !slices.Equal(got, both) || w.node(0).Status().Role != api.Leader || w.node(0).Status().Last != 1 {
		t.Fatalf("who begins to lead sends %v", got)
	}
	for tick := 1; tick < 20; tick++ {
		w.node(0).Tick()
		var want []int
		if tick%3 == 0 {
			want = both
		}
		if got := kinds(); !slices.Equal(got, want) {
			t.Fatalf("at the tick %d it sends %v", tick, got)
		}
		if tick%5 == 0 {
			w.node(0).Propose(nil)
			if got := kinds(); !slices.Equal(got, both) {
				t.Fatalf("who is proposed something sends %v", got)
			}
		}
	}
}

// P17.4: a member that is let go, and doesn't know, ends no leader.
func TestLetGo(t *testing.T) {
	for _, late := range []int{0, 1} {
		w := newWorld(t, 1, 1024, upTo(4), upTo(4))
		w.fair(20)
		w.late = late
		for _, id := range []int{3, 1} {
			w.mustChange(0, false, id)
			w.fair(6)
		}
		before := w.node(0).Status()
		for range 100 {
			w.fair(3)
			if s := w.node(0).Status(); s.Role != api.Leader || s.Term != before.Term || !slices.Equal(s.Members, []int{0, 2}) {
				t.Fatalf("the leader is %+v", s)
			}
		}
		w.mustChange(0, true, 1)
		w.fair(60)
		w.mustGoOn()
		if s := w.node(1).Status(); !slices.Equal(s.Members, []int{0, 1, 2}) {
			t.Fatalf("who came again is %+v", s)
		}
	}
}

// A leader that lets itself go leads up to when that is committed, and stands no more.
func TestLeaderGoes(t *testing.T) {
	w := newWorld(t, 1, 1024, upTo(3), upTo(3))
	w.fair(13)
	w.mustChange(0, false, 0)
	if s := w.node(0).Status(); s.Role != api.Leader || !slices.Equal(s.Members, []int{1, 2}) || s.Commit != 1 {
		t.Fatalf("it is %+v", s)
	}
	if e := w.node(0).Change(true, 0); e != api.ErrState {
		t.Fatalf("Change: %v", e)
	}
	index := w.mustPropose(0, "last")
	w.settle()
	if s := w.node(0).Status(); s.Role != api.Follower || s.Leader != -1 || s.Commit < index-1 {
		t.Fatalf("it is %+v", s)
	}
	w.fair(19)
	if w.leader() != nil {
		t.Fatal("one leads too soon")
	}
	w.fair(1)
	if s := w.leader(); s == nil || s.id != 1 || s.n.Status().Term != 2 {
		t.Fatal("1 should lead")
	}
	w.fair(300)
	if s := w.node(0).Status(); s.Term != 1 || s.Role != api.Follower || w.node(1).Status().Term != 2 {
		t.Fatalf("who is gone is %+v", s)
	}
	w.mustGoOn()
}

// P17.4: of two, the leader lets itself go, and nobody hears of it ahead of its crash.
func TestLeaderGoesUnheard(t *testing.T) {
	w := newWorld(t, 1, 1024, upTo(2), upTo(2))
	w.fair(13)
	w.cut = func(from, to int) bool { return true }
	w.mustChange(0, false, 0)
	w.boot(w.seat(0), nil)
	w.heal(1)
	w.mustGoOn()
	if s := w.leader(); s.id != 1 || !slices.Equal(s.n.Status().Members, []int{1}) {
		t.Fatalf("%d leads, %+v", s.id, s.n.Status())
	}
}

// P17.4: two hold on to a leader that has no majority; whom the others need, it doesn't know.
func TestOldLeaderIsLeft(t *testing.T) {
	w := newWorld(t, 1, 1024, upTo(7), []int{0, 1, 2, 3, 4})
	w.fair(20)
	w.mustBeFirst(0)
	w.cut = func(from, to int) bool { return (from < 2) != (to < 2) }
	w.fair(60)
	w.mustBeFirst(2)
	for _, c := range []struct {
		add bool
		id  int
	}{{true, 5}, {true, 6}, {false, 3}, {false, 4}} {
		w.mustChange(2, c.add, c.id)
		w.fair(6)
	}
	if s := w.node(2).Status(); !slices.Equal(s.Members, []int{0, 1, 2, 5, 6}) || s.Commit != s.Last {
		t.Fatalf("2 is %+v", s)
	}
	if s := w.node(0).Status(); s.Role != api.Leader || s.Term != 1 {
		t.Fatalf("0 is %+v", s)
	}
	w.heal(0, 2, 3, 4, 6)
	w.mustGoOn()
}

// mustBeFirst holds that one leads in the greatest term.
func (w *world) mustBeFirst(id int) {
	w.t.Helper()
	if s := w.leader(); s == nil || s.id != id {
		w.t.Fatalf("%d should lead", id)
	}
}

// P17.4: two stand in the same ticks, always, as 104 is 8 times 13; the one that may lead does.
func TestInStep(t *testing.T) {
	ids := []int{0, 8, 13}
	for _, late := range []int{0, 1} {
		w := newWorld(t, 1, 1024, ids, ids)
		w.cut = func(from, to int) bool { return from == 0 || to == 0 }
		w.fair(70)
		w.mustBeFirst(8)
		w.mustPropose(8, "a")
		w.fair(5)
		w.heal(late, 8)
		w.boot(w.seat(0), nil)
		w.boot(w.seat(13), nil)
		w.fair(104 + 6)
		w.mustLead(13, w.node(13).Status().Term)
		w.mustGoOn()
	}
}

// P17.4: who stands in a term that is over, and would have been voted for, stands again at once.
func TestTermIsOver(t *testing.T) {
	w := newWorld(t, 1, 1024, upTo(2), upTo(2))
	w.fair(16)
	w.cut = func(from, to int) bool { return true }
	w.fair(100)
	if s := w.node(1).Status(); s.Term != 6 || s.Role != api.Candidate {
		t.Fatalf("it is %+v", s)
	}
	w.cut = nil
	w.boot(w.seat(0), nil)
	w.boot(w.seat(1), nil)
	w.fair(12)
	if w.leader() != nil {
		t.Fatal("one leads too soon")
	}
	w.fair(1)
	w.mustLead(0, 7)
	w.fair(50)
	w.mustLead(0, 7)
}

// P17.4: who stands in a term that is over, and isn't as new, doesn't end the one who leads next.
func TestTermIsOverForGood(t *testing.T) {
	w := newWorld(t, 1, 1024, upTo(3), upTo(3))
	w.fair(16)
	w.cut = func(from, to int) bool { return from == 0 || to == 0 }
	w.fair(30)
	w.mustPropose(1, "a")
	w.fair(3)
	w.cut = nil
	for _, s := range w.seats {
		w.boot(s, nil)
	}
	w.fair(13)
	if s := w.node(0).Status(); s.Role != api.Candidate || s.Term != 2 || w.node(1).Status().Term != 2 {
		t.Fatalf("it is %+v", s)
	}
	w.fair(7)
	w.mustLead(1, 3)
}

// P17.4: a member that lacks nearly all has it soon, of many entries and of great ones.
func TestCatchesUp(t *testing.T) {
	for _, x := range []struct{ many, size, snapshot int }{{900, 1, 0}, {900, 30, 0}, {60, 800, 0}, {300, 20, 250}, {100, 800, 60}} {
		for seed := range 3 {
			w := newWorld(t, int64(seed), 4096, upTo(3), upTo(3))
			w.fair(13)
			w.seat(2).down = true
			b := string(make([]byte, x.size))
			for i := range x.many {
				w.mustPropose(0, b)
				w.settle()
				if i == x.snapshot-1 {
					w.fair(3)
					for id := range 2 {
						if e := w.node(id).Snapshot(i, w.states[i]); e != api.OK {
							t.Fatal(e)
						}
					}
				}
			}
			w.fair(5)
			w.boot(w.seat(2), nil)
			if seed == 1 {
				w.boot(w.seat(0), nil)
				w.boot(w.seat(1), nil)
				w.fair(13)
			}
			w.late = 1
			index := w.mustPropose(0, "last")
			w.fair(20)
			for _, s := range w.seats {
				if s.told < index {
					t.Fatalf("%d applied up to %d of %d", s.id, s.told, index)
				}
			}
		}
	}
}

// A burst of commands, with doubled letters, comes to an end.
func TestBurst(t *testing.T) {
	w := newWorld(t, 1, 4096, upTo(3), upTo(3))
	w.fair(13)
	for i := range 300 {
		w.mustPropose(0, strconv.Itoa(i))
		for k := range min(2, len(w.letters)) {
			w.letters = append(w.letters, w.letters[len(w.letters)-1-k])
		}
	}
	sent := 0
	w.sent = func(api.Msg) { sent++ }
	w.settle()
	if sent > 8000 {
		t.Fatalf("%d letters", sent)
	}
	w.fair(3)
	for _, s := range w.seats {
		if s.told != 301 {
			t.Fatalf("%d applied up to %d", s.id, s.told)
		}
	}
}
