package raft_test

import (
	"bytes"
	"math/rand"
	"slices"
	"testing"

	"dotterel/api"
	"dotterel/frames"
	"dotterel/quorum"
	"dotterel/raft"
	"dotterel/sector"
	"dotterel/vault"
)

// letter is a message under way; it isn't let come ahead of its tick.
type letter struct {
	from, to, due int
	m             api.Msg
}

// seat is where a node runs: its device stays when it crashes.
type seat struct {
	id     int
	d      *sector.Device
	n      *raft.Node
	down   bool
	term   int // what its Status told last
	commit int
	told   int    // up to where it applied
	state  []byte // what these entries make
}

// world is nodes, and what of them is true for all time.
type world struct {
	t       *testing.T
	r       *rand.Rand
	seats   []*seat
	letters []letter
	now     int
	late    int // a letter comes at most so many ticks late
	mixed   bool
	cut     func(from, to int) bool
	sent    func(m api.Msg)   // is told each message
	ever    []letter          // letters that were cut off, or came: they may come again
	leaders map[int]int       // who led, by terms
	entries map[int]api.Entry // what was applied, by indexes
	states  map[int][]byte    // what the entries up to an index make
	top     int               // the greatest index that was applied
}

// newWorld has nodes of these numbers on devices of so many sectors, each of which is told the members.
func newWorld(t *testing.T, seed int64, sectors int, ids, members []int) *world {
	t.Helper()
	w := &world{t: t, r: rand.New(rand.NewSource(seed)), leaders: map[int]int{}, entries: map[int]api.Entry{}, states: map[int][]byte{0: nil}}
	for _, id := range ids {
		s := &seat{id: id, d: sector.New(sectors)}
		w.seats = append(w.seats, s)
		w.open(s, members)
	}
	return w
}

// open begins a node of what its device keeps.
func (w *world) open(s *seat, members []int) {
	w.t.Helper()
	v, e := vault.Open(s.d)
	if e != api.OK {
		w.t.Fatalf("vault of %d: %v", s.id, e)
	}
	n, e := raft.New(s.id, v, members)
	if e != api.OK || n == nil {
		w.t.Fatalf("New(%d): %v", s.id, e)
	}
	if n.Status().Term < s.term {
		w.t.Fatalf("the term of %d fell from %d to %d", s.id, s.term, n.Status().Term)
	}
	s.n, s.down, s.commit, s.told, s.state = n, false, 0, 0, nil
	w.check(s)
}

// boot lets the power of a node fail, and begins it anew.
func (w *world) boot(s *seat, keeps []int) {
	w.t.Helper()
	s.d.Boot(keeps)
	w.open(s, nil)
}

func (w *world) seat(id int) *seat {
	for _, s := range w.seats {
		if s.id == id {
			return s
		}
	}
	return nil
}

func (w *world) node(id int) *raft.Node { return w.seat(id).n }

// makes is what an entry makes of a state: it tells all entries, in their order, apart from others.
func makes(state []byte, index int, e api.Entry) []byte {
	sum := uint64(14695981039346656037)
	for _, b := range slices.Concat(state, []byte{byte(index), byte(index >> 8), byte(e.Term), byte(e.Term >> 8), byte(e.Kind)}, e.B) {
		sum = (sum ^ uint64(b)) * 1099511628211
	}
	var next []byte
	for range 8 {
		next = append(next, byte(sum))
		sum >>= 8
	}
	return next
}

// apply holds the entries that a node applies against those that others did.
func (w *world) apply(s *seat) {
	w.t.Helper()
	if b, index, ok := s.n.Restored(); ok {
		want, known := w.states[index]
		if !known || !bytes.Equal(b, want) || index <= s.told {
			w.t.Fatalf("node %d, at %d, is restored at %d with %x, not %x", s.id, s.told, index, b, want)
		}
		s.told, s.state = index, b
	} else if b != nil || index != 0 {
		w.t.Fatalf("Restored of %d: %x, %d, beside false", s.id, b, index)
	}
	for _, a := range s.n.Applied() {
		if a.Index != s.told+1 {
			w.t.Fatalf("node %d applies %d behind %d", s.id, a.Index, s.told)
		}
		s.told, s.state = a.Index, makes(s.state, a.Index, a.E)
		if e, known := w.entries[a.Index]; known {
			if e.Term != a.E.Term || e.Kind != a.E.Kind || !bytes.Equal(e.B, a.E.B) {
				w.t.Fatalf("node %d applies %v at %d, another one %v", s.id, a.E, a.Index, e)
			}
			continue
		}
		w.entries[a.Index], w.states[a.Index] = a.E, s.state
		w.top = max(w.top, a.Index)
	}
	if !bytes.Equal(s.state, w.states[s.told]) {
		w.t.Fatalf("node %d has another state at %d", s.id, s.told)
	}
}

// check holds what a node tells against what is true for all time.
func (w *world) check(s *seat) {
	w.t.Helper()
	st := s.n.Status()
	if st.Term < s.term || st.Commit < s.commit || st.Commit > st.Last || s.n.Dead() && st.Commit > s.commit {
		w.t.Fatalf("node %d is %+v, behind term %d and commit %d", s.id, st, s.term, s.commit)
	}
	s.term, s.commit = st.Term, st.Commit
	if len(st.Members) > 0 && !quorum.Right(st.Members) {
		w.t.Fatalf("node %d has the members %v", s.id, st.Members)
	}
	if st.Role == api.Leader {
		if id, led := w.leaders[st.Term]; led && id != s.id {
			w.t.Fatalf("%d and %d lead in the term %d", id, s.id, st.Term)
		}
		w.leaders[st.Term] = s.id
		if st.Leader != s.id && !s.n.Dead() {
			w.t.Fatalf("node %d leads, but takes %d for the leader", s.id, st.Leader)
		}
	}
	if !s.n.Dead() {
		w.apply(s)
		if s.told != st.Commit {
			w.t.Fatalf("node %d applied up to %d of %d", s.id, s.told, st.Commit)
		}
	}
}

// send takes what a node sends.
func (w *world) send(s *seat) {
	w.t.Helper()
	for _, p := range s.n.Out() {
		if p.To < 0 || p.To > 15 || p.To == s.id {
			w.t.Fatalf("node %d sends to %d", s.id, p.To)
		}
		if e := frames.Check(p.M); e != api.OK || p.M.Kind < api.MVote || p.M.Kind > api.MInstall {
			w.t.Fatalf("node %d sends a wrong message: %v, kind %d", s.id, e, p.M.Kind)
		}
		if w.sent != nil {
			w.sent(p.M)
		}
		if w.cut != nil && w.cut(s.id, p.To) {
			w.ever = append(w.ever, letter{s.id, p.To, w.now, p.M})
			continue
		}
		late := 0
		if w.late > 0 {
			late = w.r.Intn(w.late + 1)
		}
		w.letters = append(w.letters, letter{s.id, p.To, w.now + late, p.M})
	}
}

// step does something with a node, and takes what comes of it.
func (w *world) step(s *seat, do func(n *raft.Node)) {
	w.t.Helper()
	do(s.n)
	w.check(s)
	w.send(s)
}

// come lets a letter come, if there is somebody.
func (w *world) come(l letter) {
	w.t.Helper()
	if s := w.seat(l.to); s != nil && !s.down {
		w.step(s, func(n *raft.Node) { n.Handle(l.from, l.m) })
	}
}

// settle lets all letters come that are due; of a world that is mixed in any order, and some twice.
func (w *world) settle() {
	w.t.Helper()
	for many := 0; ; many++ {
		var due []int
		for i, l := range w.letters {
			if l.due <= w.now {
				due = append(due, i)
				if !w.mixed {
					break
				}
			}
		}
		if due == nil {
			return
		}
		i := due[0]
		if w.mixed {
			i = due[w.r.Intn(len(due))]
		}
		l := w.letters[i]
		if !w.mixed || w.r.Intn(10) > 0 {
			w.letters = slices.Delete(w.letters, i, i+1)
		}
		w.come(l)
		if many > 20000 {
			w.t.Fatal("letters don't end")
		}
	}
}

// fair is so many ticks of all, with all letters.
func (w *world) fair(ticks int) {
	w.t.Helper()
	for range ticks {
		w.now++
		for _, s := range w.seats {
			if !s.down {
				w.step(s, (*raft.Node).Tick)
			}
		}
		w.settle()
	}
}

// leader is who leads in the greatest term, of those who are up; nil: nobody.
func (w *world) leader() *seat {
	var found *seat
	for _, s := range w.seats {
		if s.down || s.n.Dead() || s.n.Status().Role != api.Leader {
			continue
		}
		if found == nil || s.n.Status().Term > found.n.Status().Term {
			found = s
		}
	}
	return found
}

// mustLead holds that id leads, in that term, and that all who are up take it for the leader.
func (w *world) mustLead(id, term int) {
	w.t.Helper()
	for _, s := range w.seats {
		st := s.n.Status()
		if s.down {
			continue
		}
		if role := api.Follower; s.id == id && st.Role != api.Leader || s.id != id && st.Role != role || st.Term != term || st.Leader != id {
			w.t.Fatalf("at tick %d node %d is %+v: %d should lead in the term %d", w.now, s.id, st, id, term)
		}
	}
}

// mustPropose proposes at a node that leads, and tells the index.
func (w *world) mustPropose(id int, b string) int {
	w.t.Helper()
	s, index := w.seat(id), 0
	w.step(s, func(n *raft.Node) {
		before := n.Status()
		var term int
		var e api.Errno
		index, term, e = n.Propose([]byte(b))
		if e != api.OK || index != before.Last+1 || term != before.Term {
			w.t.Fatalf("Propose at %d (%+v): %d, %d, %v", id, before, index, term, e)
		}
	})
	return index
}

// mustChange changes the members at a node that leads.
func (w *world) mustChange(id int, add bool, who int) {
	w.t.Helper()
	w.step(w.seat(id), func(n *raft.Node) {
		if e := n.Change(add, who); e != api.OK {
			w.t.Fatalf("Change(%v, %d) at %d (%+v): %v", add, who, id, n.Status(), e)
		}
	})
}

// upTo are the numbers from 0 on, so many.
func upTo(many int) []int {
	var ids []int
	for id := range many {
		ids = append(ids, id)
	}
	return ids
}

// opened is a node on a new device.
func opened(t *testing.T, id int, members []int) (*raft.Node, *sector.Device) {
	t.Helper()
	d := sector.New(256)
	return reopened(t, id, d, members), d
}

// reopened is a node of what a device keeps, behind a failure of its power.
func reopened(t *testing.T, id int, d *sector.Device, members []int) *raft.Node {
	t.Helper()
	d.Boot(nil)
	v, e := vault.Open(d)
	if e != api.OK {
		t.Fatal(e)
	}
	n, e := raft.New(id, v, members)
	if e != api.OK {
		t.Fatal(e)
	}
	return n
}

func sameStatus(a, b api.Status) bool {
	return a.Term == b.Term && a.Role == b.Role && a.Leader == b.Leader && a.Commit == b.Commit && a.Last == b.Last && slices.Equal(a.Members, b.Members)
}
