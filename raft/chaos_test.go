package raft_test

import (
	"testing"

	"dotterel/api"
	"dotterel/raft"
)

// chaos is what happens by chance: each thing as often as its number tells, of 1,000.
type chaos struct {
	sectors              int
	ids, members         []int
	lose, double, old    int
	crash, fuse, propose int
	change, snapshot     int
	tick                 int
}

// run lets things happen.
func (c chaos) run(t *testing.T, seed int64, steps int) *world {
	t.Helper()
	w := newWorld(t, seed, c.sectors, c.ids, c.members)
	for step := range steps {
		if step%400 == 0 {
			w.cut = parted(w.r.Perm(16), w.r.Intn(len(c.ids)))
		}
		s := w.seats[w.r.Intn(len(w.seats))]
		chance := func(many int) bool { return w.r.Intn(1000) < many }
		if chance(c.tick) && !s.down {
			w.step(s, (*raft.Node).Tick)
		}
		if len(w.letters) > 0 && chance(900) {
			i := w.r.Intn(len(w.letters))
			l := w.letters[i]
			w.ever = append(w.ever, l)
			if !chance(c.double) {
				w.letters[i] = w.letters[len(w.letters)-1]
				w.letters = w.letters[:len(w.letters)-1]
			}
			if !chance(c.lose) {
				w.come(l)
			}
		}
		if len(w.ever) > 0 && chance(c.old) {
			w.come(w.ever[w.r.Intn(len(w.ever))])
		}
		if chance(c.crash) || s.n.Dead() {
			c.crashOne(w, s)
		}
		if chance(c.fuse) {
			s.d.Fuse(w.r.Intn(30))
		}
		if !s.down {
			w.step(s, func(n *raft.Node) { c.use(w, s, n, chance) })
		}
		if len(w.letters) > 300 {
			w.letters = w.letters[w.r.Intn(200):]
		}
	}
	return w
}

// parted lets no letters come between so many nodes and all others.
func parted(order []int, many int) func(from, to int) bool {
	return func(from, to int) bool { return (order[from] < 2*many) != (order[to] < 2*many) }
}

// crashOne takes the power from a node; now or later it begins anew.
func (c chaos) crashOne(w *world, s *seat) {
	w.t.Helper()
	if s.down = !s.n.Dead() && w.r.Intn(3) == 0; s.down {
		return
	}
	var keeps []int
	for range w.r.Intn(20) {
		keeps = append(keeps, w.r.Intn(66)-1)
	}
	w.boot(s, keeps)
}

// use proposes, changes, and makes snapshots.
func (c chaos) use(w *world, s *seat, n *raft.Node, chance func(int) bool) {
	w.t.Helper()
	if chance(c.propose) {
		b := make([]byte, w.r.Intn(20))
		if chance(20) {
			b = make([]byte, 800)
		}
		w.r.Read(b)
		n.Propose(b)
		w.check(s)
	}
	if chance(c.change) {
		n.Change(w.r.Intn(2) == 0, c.ids[w.r.Intn(len(c.ids))])
		w.check(s)
	}
	if chance(c.snapshot) && !n.Dead() {
		w.apply(s)
		index := s.told - w.r.Intn(4)
		if b, known := w.states[index]; known {
			if e := n.Snapshot(index, b); e != api.OK && e != api.ErrArg && !n.Dead() {
				w.t.Fatalf("Snapshot(%d) of %d at %d: %v", index, s.id, s.told, e)
			}
		}
	}
}

// many runs chaos of so many seeds, and holds that it comes to something.
func (c chaos) many(t *testing.T, seeds, steps int) {
	t.Helper()
	terms, applied := 0, 0
	for seed := range seeds {
		w := c.run(t, int64(seed), steps)
		terms += len(w.leaders)
		applied += w.top
	}
	t.Logf("%d leaders, %d entries", terms, applied)
	if terms < 2*seeds || applied < 10*seeds {
		t.Errorf("%d leaders, %d entries in %d runs", terms, applied, seeds)
	}
}

// P17.3: letters that are lost, doubled, and late.
func TestSafeLetters(t *testing.T) {
	c := chaos{sectors: 1024, ids: upTo(5), members: upTo(5), lose: 100, double: 200, old: 100, propose: 100, snapshot: 30, tick: 700}
	c.many(t, 40, 5000)
}

// P17.3: crashes, also within a change of the vault, with torn sectors.
func TestSafeCrashes(t *testing.T) {
	c := chaos{sectors: 1024, ids: upTo(3), members: upTo(3), lose: 50, double: 50, old: 50, crash: 5, fuse: 15, propose: 100, snapshot: 30, tick: 500}
	c.many(t, 40, 5000)
}

// P17.3: members that come and go.
func TestSafeChanges(t *testing.T) {
	c := chaos{sectors: 1024, ids: upTo(6), members: upTo(3), lose: 50, double: 100, old: 50, crash: 5, fuse: 5, propose: 50, change: 50, snapshot: 20, tick: 600}
	c.many(t, 60, 6000)
}
