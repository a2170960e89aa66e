package raft_test

import (
	"bytes"
	"fmt"
	"math/rand"
	"slices"
	"strconv"
	"testing"

	"dotterel/api"
	"dotterel/raft"
	"dotterel/sector"
	"dotterel/vault"
)

// mustBeDead holds that a node does, and sends, nothing more, whatever comes.
func mustBeDead(t *testing.T, n *raft.Node, letters []letter) {
	t.Helper()
	before := n.Status()
	for range 150 {
		n.Tick()
	}
	for _, l := range letters {
		n.Handle(l.from, l.m)
	}
	if i, term, e := n.Propose(nil); i != 0 || term != 0 || e != api.ErrLeader {
		t.Fatalf("Propose: %d, %d, %v", i, term, e)
	}
	for _, id := range []int{0, 5, 16} {
		if e := n.Change(id == 5, id); e != api.ErrLeader {
			t.Fatalf("Change: %v", e)
		}
	}
	if e := n.Snapshot(before.Commit+1, nil); e != api.ErrArg {
		t.Fatalf("Snapshot: %v", e)
	}
	if e := n.Snapshot(before.Commit, nil); e == api.OK {
		t.Fatal("Snapshot: OK")
	}
	if out := n.Out(); out != nil {
		t.Fatalf("Out: %v", out)
	}
	if list := n.Applied(); list != nil {
		t.Fatalf("Applied: %v", list)
	}
	if b, index, ok := n.Restored(); b != nil || index != 0 || ok {
		t.Fatalf("Restored: %v, %d, %v", b, index, ok)
	}
	if !n.Dead() || !sameStatus(n.Status(), before) {
		t.Fatalf("%+v became %+v", before, n.Status())
	}
}

// scene is something that changes a vault: all ahead of it, and it itself, of which a node is told.
type scene struct {
	name  string
	id    int
	ahead func(w *world)
	do    func(w *world)
}

// scenes are all things that change a vault.
var scenes = []scene{
	{"stand", 1, func(w *world) { w.fair(12) }, func(w *world) { tick(w, 1, 8) }},
	{"vote", 1, func(w *world) { w.fair(12) }, func(w *world) { w.fair(1) }},
	{"lead", 0, func(w *world) { w.fair(12) }, func(w *world) { w.fair(1) }},
	{"propose", 0, func(w *world) { w.fair(16) }, func(w *world) {
		w.step(w.seat(0), func(n *raft.Node) { n.Propose([]byte("proposed")) })
		w.fair(4)
	}},
	{"change", 0, func(w *world) { w.fair(16) }, func(w *world) {
		w.step(w.seat(0), func(n *raft.Node) { n.Change(true, 9) })
		w.fair(4)
	}},
	{"entries", 1, func(w *world) { w.fair(16) }, func(w *world) {
		for i := range 3 {
			w.mustPropose(0, strconv.Itoa(i))
		}
		w.fair(4)
	}},
	{"other entries", 0, func(w *world) { leftBehind(w, 4, 2) }, func(w *world) {
		w.cut = nil
		w.fair(8)
	}},
	{"snapshot", 1, func(w *world) {
		w.fair(16)
		for i := range 5 {
			w.mustPropose(0, strconv.Itoa(i))
		}
		w.fair(4)
	}, func(w *world) {
		w.step(w.seat(1), func(n *raft.Node) { n.Snapshot(4, w.states[4]) })
		w.fair(1)
	}},
	{"install", 0, func(w *world) {
		leftBehind(w, 8, 5)
		for id := 1; id < 3; id++ {
			if e := w.node(id).Snapshot(5, w.states[5]); e != api.OK {
				w.t.Fatal(e)
			}
		}
	}, func(w *world) {
		w.cut = nil
		w.fair(8)
	}},
}

// leftBehind cuts 0 off, which leads, with so many entries that nobody else has; 1 leads then, with so many others.
func leftBehind(w *world, lost, others int) {
	w.fair(16)
	w.cut = func(from, to int) bool { return from == 0 || to == 0 }
	for i := range lost {
		w.mustPropose(0, "lost"+strconv.Itoa(i))
	}
	w.fair(30)
	for i := range others {
		w.mustPropose(1, strconv.Itoa(i))
	}
	w.fair(5)
}

// tick lets ticks of one go by.
func tick(w *world, id, ticks int) {
	for range ticks {
		w.step(w.seat(id), (*raft.Node).Tick)
	}
}

// P17.1: a node whose vault refuses a change is dead; P17.3: what is kept then is right, wherever the power failed, and whatever of it came.
func TestDeadAnywhere(t *testing.T) {
	for _, c := range scenes {
		points := 0
		for fuse := 0; ; fuse++ {
			dead := false
			for _, keep := range []int{0, 64, 5, -2} {
				w := newWorld(t, 1, 256, upTo(3), upTo(3))
				c.ahead(w)
				s := w.seat(c.id)
				s.d.Fuse(fuse)
				c.do(w)
				if dead = s.n.Dead(); !dead {
					break
				}
				points++
				mustBeDead(t, s.n, w.letters)
				s.d.Boot(keepsOf(w.r, keep))
				mustBeDead(t, s.n, nil)
				w.cut = nil
				w.open(s, nil)
				// What it alone keeps counts: another one is down. But of four members three are needed, and there are no more.
				w.seat((c.id + 1) % 3).down = c.name != "change"
				w.fair(120)
				lead := w.leader()
				if lead == nil {
					t.Fatalf("%s, fuse %d: nobody leads", c.name, fuse)
				}
				w.mustPropose(lead.id, "more")
				w.fair(10)
				w.open(w.seat((c.id+1)%3), nil)
				w.fair(20)
				for _, s := range w.seats {
					if s.told != w.top || string(w.entries[w.top].B) != "more" {
						t.Fatalf("%s, fuse %d: %d applied up to %d of %d", c.name, fuse, s.id, s.told, w.top)
					}
				}
			}
			if !dead {
				break
			}
		}
		if points < 4*3 {
			t.Errorf("%s: %d points", c.name, points)
		}
	}
}

// keepsOf are numbers for a Boot: all of each, or by chance.
func keepsOf(r *rand.Rand, keep int) []int {
	var keeps []int
	for range 40 {
		if keep == -2 {
			keeps = append(keeps, r.Intn(65))
		} else {
			keeps = append(keeps, keep)
		}
	}
	return keeps
}

// P17.1: what was handed over stays, up to the change that was refused: it has all ahead of it, or all of the change.
func TestKeptWhole(t *testing.T) {
	for fuse := range 300 {
		n, d := leading(t, 0)
		done := 1
		d.Fuse(fuse)
		for i := range 40 {
			if _, _, e := n.Propose(bytes.Repeat([]byte{byte(i)}, i)); e != api.OK {
				break
			}
			done++
		}
		if !n.Dead() {
			break
		}
		n = reopened(t, 0, d, nil)
		if s := n.Status(); s.Last != done && s.Last != done+1 || s.Term != 1 {
			t.Fatalf("fuse %d: %+v behind %d entries", fuse, s, done)
		}
		for range 13 {
			n.Tick()
		}
		for i, a := range n.Applied()[1:done] {
			if !bytes.Equal(a.E.B, bytes.Repeat([]byte{byte(i)}, i)) {
				t.Fatalf("fuse %d: at %d: %v", fuse, i, a)
			}
		}
	}
}

// P17.1: a node on a vault whose power is off, or that has no room, is made, and dead as soon as it has something to keep.
func TestNewDead(t *testing.T) {
	for fuse := range 4 {
		d := sector.New(64)
		v, _ := vault.Open(d)
		d.Fuse(fuse)
		n, e := raft.New(0, v, []int{0})
		if e != api.OK || n == nil || n.Dead() != (fuse < 4) {
			t.Fatalf("fuse %d: %v, dead: %v", fuse, e, n.Dead())
		}
		mustBeDead(t, n, nil)
		if s := n.Status(); !sameStatus(s, api.Status{Leader: -1, Members: []int{0}}) {
			t.Fatalf("it is %+v", s)
		}
	}
	n, d := leading(t, 0)
	n.Propose([]byte("x"))
	d.Boot(nil)
	v, _ := vault.Open(d)
	d.Fuse(0)
	n, e := raft.New(0, v, nil)
	if e != api.OK || n.Dead() {
		t.Fatalf("New: %v, dead: %v", e, n.Dead())
	}
	for range 13 {
		n.Tick()
	}
	if s := n.Status(); !n.Dead() || s.Role != api.Follower || s.Term != 1 {
		t.Fatalf("it is %+v", s)
	}
	mustBeDead(t, n, nil)
}

// P17.1: a vault without room refuses, too.
func TestFull(t *testing.T) {
	d := sector.New(64)
	v, _ := vault.Open(d)
	n, _ := raft.New(0, v, []int{0})
	for range 13 {
		n.Tick()
	}
	done := 1
	for {
		i, _, e := n.Propose(make([]byte, 100))
		if e == api.ErrLeader {
			break
		}
		if done++; i != done || e != api.OK || done > 1000 {
			t.Fatalf("Propose: %d, %v", i, e)
		}
	}
	mustBeDead(t, n, nil)
	if n = reopened(t, 0, d, nil); n.Status().Last != done {
		t.Fatalf("%+v behind %d entries", n.Status(), done)
	}
}

// With snapshots a small device is enough for any number of entries.
func TestRoom(t *testing.T) {
	w := newWorld(t, 1, 200, upTo(3), upTo(3))
	w.fair(13)
	for i := range 600 {
		w.mustPropose(0, fmt.Sprint("entry ", i))
		w.fair(1 + i%3)
		for _, s := range w.seats {
			if (i+s.id)%7 == 0 {
				if e := s.n.Snapshot(s.told, w.states[s.told]); e != api.OK {
					t.Fatal(e)
				}
			}
		}
		if i%50 == 0 {
			w.boot(w.seat(1+i/50%2), nil)
		}
	}
	w.mustLead(0, 1)
}

// P17.1: the keeping is ahead of the sending: whoever crashes behind each letter goes on as it said.
func TestKeptAheadOfSending(t *testing.T) {
	for seed := range 30 {
		w := newWorld(t, int64(seed), 1024, upTo(3), upTo(3))
		for range 2000 {
			s := w.seats[w.r.Intn(3)]
			w.step(s, (*raft.Node).Tick)
			if w.r.Intn(20) == 0 {
				w.step(s, func(n *raft.Node) { n.Propose([]byte{1}) })
			}
			for range w.r.Intn(5) {
				if len(w.letters) == 0 {
					break
				}
				i := w.r.Intn(len(w.letters))
				l := w.letters[i]
				w.letters = slices.Delete(w.letters, i, i+1)
				w.come(l)
				if w.r.Intn(10) == 0 {
					w.boot(w.seat(l.to), nil)
				}
			}
		}
	}
}
