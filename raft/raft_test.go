package raft_test

import (
	"bytes"
	"math"
	"math/rand"
	"slices"
	"strconv"
	"testing"

	"dotterel/api"
	"dotterel/quorum"
	"dotterel/raft"
	"dotterel/sector"
	"dotterel/vault"
)

// wrongIds are no numbers of nodes.
var wrongIds = []int{math.MinInt, -1 << 32, -16, -2, -1, 16, 17, 255, 256, 1 << 31, 1 << 32, 1<<32 + 3, math.MaxInt}

// wrongMembers are neither right nor none.
var wrongMembers = [][]int{{-1}, {16}, {0, 0}, {1, 0}, {0, 1, 1}, {0, 2, 1}, {3, 16}, {-1, 3}, {0, 1, 2, 3, 4, 5, 6, 7}, {1 << 32}, make([]int, 100)}

// leading is a node that leads alone.
func leading(t *testing.T, id int) (*raft.Node, *sector.Device) {
	t.Helper()
	n, d := opened(t, id, []int{id})
	for range 13 + 7*id {
		n.Tick()
	}
	if s := n.Status(); s.Role != api.Leader || s.Term != 1 || s.Commit != 1 {
		t.Fatalf("it is %+v", s)
	}
	return n, d
}

// P17.1: what New refuses, whatever the vault has.
func TestNewErrors(t *testing.T) {
	_, d := leading(t, 0)
	for _, d := range []*sector.Device{sector.New(64), d} {
		d.Boot(nil)
		v, _ := vault.Open(d)
		before := v.Keys()
		refuse := func(id int, v *vault.Vault, members []int) {
			t.Helper()
			if n, e := raft.New(id, v, members); n != nil || e != api.ErrArg {
				t.Errorf("New(%d, %v): %v", id, members, e)
			}
		}
		for _, id := range wrongIds {
			refuse(id, v, []int{0, 1})
			refuse(id, v, nil)
			refuse(id, nil, wrongMembers[0])
		}
		for _, members := range wrongMembers {
			refuse(0, v, members)
			refuse(0, nil, members)
		}
		refuse(0, nil, []int{0})
		if !slices.Equal(v.Keys(), before) {
			t.Error("the vault was changed")
		}
	}
}

// P17.1: a vault that has nothing of it: the members are kept at once, and those that it is told later count for nothing.
func TestNewKeeps(t *testing.T) {
	for _, members := range [][]int{nil, {}, {0}, {0, 3, 15}, {1, 2}, {0, 1, 2, 3, 4, 5, 15}} {
		n, d := opened(t, 3, members)
		want := api.Status{Leader: -1, Members: members}
		for _, other := range [][]int{nil, {9}, {0, 1, 2}} {
			if s := n.Status(); !sameStatus(s, want) || n.Dead() || n.Out() != nil || n.Applied() != nil {
				t.Fatalf("with %v it is %+v", members, s)
			}
			if b, index, ok := n.Restored(); b != nil || index != 0 || ok {
				t.Fatalf("Restored: %v, %d, %v", b, index, ok)
			}
			n = reopened(t, 3, d, other)
		}
	}
}

// P17.1: who has no members stands for nothing, and votes; it is handed some.
func TestNone(t *testing.T) {
	w := newWorld(t, 1, 512, []int{0}, []int{0})
	s := &seat{id: 1, d: sector.New(512)}
	w.seats = append(w.seats, s)
	w.open(s, nil)
	w.fair(300)
	if st := s.n.Status(); !sameStatus(st, api.Status{Leader: -1}) {
		t.Fatalf("it is %+v", st)
	}
	w.mustPropose(0, "ahead")
	w.mustChange(0, true, 1)
	if st := w.node(0).Status(); st.Commit != 2 || st.Last != 3 {
		t.Fatalf("it is %+v", st)
	}
	w.fair(4)
	w.mustLead(0, 1)
	if st := s.n.Status(); !slices.Equal(st.Members, []int{0, 1}) || st.Commit != 3 || s.told != 3 {
		t.Fatalf("it is %+v", st)
	}
	w.boot(s, nil)
	w.seat(0).down = true
	w.fair(19)
	if st := s.n.Status(); st.Role != api.Follower || st.Last != 3 || !slices.Equal(st.Members, []int{0, 1}) {
		t.Fatalf("it is %+v", st)
	}
	w.fair(1)
	if st := s.n.Status(); st.Role != api.Candidate || st.Term != 2 {
		t.Fatalf("it is %+v", st)
	}
}

// Two of which one knows no members: the vote of that one counts.
func TestNoneVotes(t *testing.T) {
	w := newWorld(t, 1, 512, []int{0}, []int{0})
	w.fair(13)
	w.cut = func(from, to int) bool { return true }
	w.mustChange(0, true, 1)
	w.boot(w.seat(0), nil)
	w.cut = nil
	s := &seat{id: 1, d: sector.New(512)}
	w.seats = append(w.seats, s)
	w.open(s, []int{})
	w.fair(13 + 4)
	w.mustLead(0, 2)
	if s.told != 3 {
		t.Fatalf("it applied up to %d", s.told)
	}
}

// P17.1: a vault that has something else is refused, or has a node that goes on.
func TestNewOfAnything(t *testing.T) {
	r := rand.New(rand.NewSource(1))
	refused, went := 0, 0
	for range 3000 {
		d := sector.New(256)
		v, _ := vault.Open(d)
		if r.Intn(3) > 0 {
			n, _ := raft.New(0, v, []int{0})
			for range 13 {
				n.Tick()
			}
			for i := range r.Intn(6) {
				n.Propose([]byte{byte(i)})
			}
			n.Applied()
			n.Snapshot(r.Intn(3), []byte("state"))
		}
		keys := append(v.Keys(), 0, 1, 2, 3, 4, 1<<40)
		for range 1 + r.Intn(3) {
			b := make([]byte, r.Intn(12))
			r.Read(b)
			for i := range b {
				b[i] %= 5
			}
			switch key := keys[r.Intn(len(keys))]; r.Intn(4) {
			case 0:
				v.Drop(key)
			case 1:
				old, _ := v.Get(keys[r.Intn(len(keys))])
				v.Put(key, old)
			default:
				v.Put(key, b)
			}
		}
		n, e := raft.New(0, v, []int{0})
		if e != api.OK {
			if refused++; n != nil || e != api.ErrArg {
				t.Fatalf("New: %v", e)
			}
			continue
		}
		went++
		before := n.Status()
		for range 300 {
			n.Tick()
			n.Applied()
		}
		s := n.Status()
		if s.Term < before.Term || s.Commit < before.Commit || s.Last < s.Commit {
			t.Fatalf("%+v, then %+v", before, s)
		}
	}
	if refused < 100 || went < 100 {
		t.Errorf("%d refused, %d went on", refused, went)
	}
}

// A vault whose ballot is older than its snapshot has no node's.
func TestNewWithoutBallot(t *testing.T) {
	n, d := leading(t, 0)
	n.Applied()
	n.Snapshot(1, nil)
	d.Boot(nil)
	v, _ := vault.Open(d)
	if e := v.Drop(0); e != api.OK {
		t.Fatal(e)
	}
	if n, e := raft.New(0, v, nil); n != nil || e != api.ErrArg {
		t.Fatalf("New: %v", e)
	}
}

// P17.2: what Propose refuses, and what it answers.
func TestPropose(t *testing.T) {
	n, d := opened(t, 2, []int{2})
	refuse := func(size int, want api.Errno) {
		t.Helper()
		before := n.Status()
		if i, term, e := n.Propose(make([]byte, size)); i != 0 || term != 0 || e != want {
			t.Fatalf("Propose of %d bytes: %d, %d, %v", size, i, term, e)
		}
		if s := n.Status(); !sameStatus(s, before) {
			t.Fatalf("it became %+v", s)
		}
	}
	for range 27 {
		refuse(1, api.ErrLeader)
		refuse(801, api.ErrLeader)
		n.Tick()
	}
	n.Applied()
	for i, size := range []int{0, 1, 20, 799, 800, 0} {
		b := bytes.Repeat([]byte{byte(i)}, size)
		index, term, e := n.Propose(b)
		if index != i+2 || term != 1 || e != api.OK {
			t.Fatalf("Propose of %d bytes: %d, %d, %v", size, index, term, e)
		}
		refuse(801, api.ErrLimit)
		refuse(5000, api.ErrLimit)
		list := n.Applied()
		if len(list) != 1 || list[0].Index != index || list[0].E.Term != 1 || list[0].E.Kind != api.EntryCommand || !bytes.Equal(list[0].E.B, b) {
			t.Fatalf("Applied: %v", list)
		}
		if n.Applied() != nil {
			t.Fatal("told twice")
		}
	}
	n = reopened(t, 2, d, nil)
	if s := n.Status(); !sameStatus(s, api.Status{Term: 1, Leader: -1, Last: 7, Members: []int{2}}) {
		t.Fatalf("it is %+v", s)
	}
	refuse(1, api.ErrLeader)
	for range 27 {
		n.Tick()
	}
	list := n.Applied()
	if len(list) != 8 || list[0].E.Kind != api.EntryNone || list[0].E.B != nil || list[0].E.Term != 1 || len(list[5].E.B) != 800 || list[7].E.Kind != api.EntryNone || list[7].E.Term != 2 {
		t.Fatalf("Applied: %v", list)
	}
}

// P17.2: what Change refuses, in its order.
func TestChangeErrors(t *testing.T) {
	n, _ := leading(t, 1)
	must := func(add bool, id int, want api.Errno) {
		t.Helper()
		before := n.Status()
		if e := n.Change(add, id); e != want {
			t.Fatalf("Change(%v, %d) of %v: %v, not %v", add, id, before.Members, e, want)
		}
		if s := n.Status(); want != api.OK && !sameStatus(s, before) {
			t.Fatalf("it became %+v", s)
		}
	}
	for _, id := range wrongIds {
		must(true, id, api.ErrArg)
		must(false, id, api.ErrArg)
	}
	must(true, 1, api.ErrThere)
	must(false, 0, api.ErrNone)
	must(false, 1, api.ErrState)
	must(true, 15, api.OK)
	for _, id := range append(slices.Clone(wrongIds), upTo(16)...) {
		must(true, id, api.ErrState)
		must(false, id, api.ErrState)
	}
	n, _ = opened(t, 1, []int{1})
	must(true, 2, api.ErrLeader)
	must(true, 16, api.ErrLeader)
	must(true, 1, api.ErrLeader)
}

// P17.2: up to seven members come, and go again, each at the end of the one before.
func TestChanges(t *testing.T) {
	w := newWorld(t, 1, 1024, []int{4}, []int{4})
	for _, id := range []int{0, 3, 5, 9, 14, 15, 1} {
		s := &seat{id: id, d: sector.New(1024)}
		w.seats = append(w.seats, s)
		w.open(s, nil)
	}
	w.fair(41)
	members := []int{4}
	change := func(add bool, id int) {
		w.mustChange(4, add, id)
		members, _ = quorum.Change(members, add, id)
		last := w.node(4).Status()
		if !slices.Equal(last.Members, members) {
			t.Fatalf("it is %+v", last)
		}
		w.fair(4)
		if e := w.entries[last.Last]; e.Kind != api.EntryMembers || !bytes.Equal(e.B, quorum.Bytes(members)) || e.Term != 1 {
			t.Fatalf("at %d %v was applied", last.Last, e)
		}
		for _, id := range members {
			if s := w.seat(id); s.told != last.Last || !slices.Equal(s.n.Status().Members, members) {
				t.Fatalf("%d applied up to %d, %+v", id, s.told, s.n.Status())
			}
		}
	}
	for _, id := range []int{0, 3, 5, 9, 14, 15} {
		change(true, id)
	}
	if e := w.node(4).Change(true, 1); e != api.ErrFull {
		t.Fatalf("an eighth: %v", e)
	}
	if e := w.node(4).Change(true, 4); e != api.ErrThere {
		t.Fatalf("it is there: %v", e)
	}
	for _, id := range []int{0, 15, 5, 14, 3, 9} {
		change(false, id)
	}
	if e := w.node(4).Change(false, 4); e != api.ErrState {
		t.Fatalf("the last one: %v", e)
	}
	if s := w.node(4).Status(); s.Role != api.Leader || s.Term != 1 || len(w.leaders) != 1 {
		t.Fatalf("it is %+v", s)
	}
}

// P17.2: ErrState, as long as nothing of the leader's own term is committed, or the change before isn't.
func TestMayNotChangeYet(t *testing.T) {
	w := newWorld(t, 1, 1024, upTo(3), upTo(3))
	w.fair(16)
	w.mustPropose(0, "a")
	w.settle()
	w.cut = func(from, to int) bool { return from == 0 }
	w.fair(3)
	w.seat(0).down = true
	w.cut = nil
	// 1 leads, but what it hands on is lost.
	for w.leader() == nil || w.leader().id != 1 {
		w.fair(1)
		w.cut = func(from, to int) bool { return from == 1 && w.node(1).Status().Role == api.Leader }
	}
	s := w.node(1).Status()
	for s.Commit == s.Last {
		t.Fatalf("it is %+v", s)
	}
	for _, id := range []int{0, 1, 2, 3, 16} {
		for _, add := range []bool{true, false} {
			if e := w.node(1).Change(add, id); e != api.ErrState {
				t.Fatalf("Change(%v, %d): %v", add, id, e)
			}
		}
	}
	w.cut = nil
	w.fair(4)
	w.mustChange(1, true, 9)
	if e := w.node(1).Change(false, 9); e != api.ErrState {
		t.Fatalf("a second change: %v", e)
	}
	// Three of four are needed, and there are two.
	w.fair(10)
	if e := w.node(1).Change(false, 9); e != api.ErrState {
		t.Fatalf("a second change: %v", e)
	}
	w.seat(0).down = false
	w.fair(10)
	w.mustChange(1, false, 9)
}

// A change that isn't committed goes, with all that isn't, when another one leads.
func TestChangeGoesBack(t *testing.T) {
	w := newWorld(t, 1, 1024, upTo(3), upTo(3))
	w.fair(14)
	w.cut = func(from, to int) bool { return from == 0 || to == 0 }
	w.mustPropose(0, "lost")
	w.mustChange(0, true, 7)
	w.mustPropose(0, "lost, too")
	if s := w.node(0).Status(); !slices.Equal(s.Members, []int{0, 1, 2, 7}) || s.Last != 4 || s.Commit != 1 {
		t.Fatalf("it is %+v", s)
	}
	for _, again := range []bool{false, true} {
		if again {
			w.boot(w.seat(0), []int{0, 64, 3})
			if s := w.node(0).Status(); !slices.Equal(s.Members, []int{0, 1, 2, 7}) || s.Last != 4 || s.Commit != 0 {
				t.Fatalf("it is %+v", s)
			}
		}
		w.fair(30)
	}
	w.mustPropose(1, "b")
	w.cut = nil
	w.fair(30)
	for _, s := range w.seats {
		if st := s.n.Status(); !slices.Equal(st.Members, upTo(3)) || s.told != w.top {
			t.Fatalf("%d is %+v", s.id, st)
		}
	}
	if string(w.entries[3].B) != "b" {
		t.Fatalf("at 3 %v was applied", w.entries[3])
	}
}

// P17.2: what Snapshot refuses, in its order, and that what it keeps is told anew.
func TestSnapshot(t *testing.T) {
	n, d := leading(t, 0)
	must := func(index, size int, want api.Errno) {
		t.Helper()
		before := n.Status()
		if e := n.Snapshot(index, make([]byte, size)); e != want {
			t.Fatalf("Snapshot(%d) of %d bytes: %v, not %v", index, size, e, want)
		}
		if s := n.Status(); !sameStatus(s, before) {
			t.Fatalf("%+v became %+v", before, s)
		}
		if _, _, ok := n.Restored(); ok {
			t.Fatal("its own snapshot is told")
		}
	}
	must(1, 1, api.ErrArg) // it isn't told as yet
	must(0, 701, api.ErrLimit)
	must(0, 3, api.OK)
	for i := range 9 {
		n.Propose([]byte{byte(i)})
	}
	if list := n.Applied(); len(list) != 10 {
		t.Fatalf("Applied: %v", list)
	}
	n.Propose([]byte("not told"))
	for _, index := range []int{math.MinInt, -1, 11, 12, 1 << 40, math.MaxInt} {
		must(index, 1, api.ErrArg)
		must(index, 701, api.ErrArg)
	}
	must(5, 701, api.ErrLimit)
	must(5, 1<<20, api.ErrLimit)
	must(5, 700, api.OK)
	must(4, 1, api.ErrArg)
	must(5, 0, api.OK) // in its place
	must(5, 7, api.OK)
	must(10, 699, api.OK)
	must(9, 0, api.ErrArg)
	if list := n.Applied(); len(list) != 1 || list[0].Index != 11 || string(list[0].E.B) != "not told" {
		t.Fatalf("Applied: %v", list)
	}
	n = reopened(t, 0, d, nil)
	if s := n.Status(); !sameStatus(s, api.Status{Term: 1, Leader: -1, Commit: 10, Last: 11, Members: []int{0}}) {
		t.Fatalf("it is %+v", s)
	}
	if b, index, ok := n.Restored(); !bytes.Equal(b, make([]byte, 699)) || index != 10 || !ok {
		t.Fatalf("Restored: %v, %d, %v", b, index, ok)
	}
	must(9, 0, api.ErrArg)
	must(11, 0, api.ErrArg)
	must(10, 1, api.OK)
	for range 13 {
		n.Tick()
	}
	if list := n.Applied(); len(list) != 2 || list[0].Index != 11 || list[1].E.Kind != api.EntryNone {
		t.Fatalf("Applied: %v", list)
	}
	must(12, 1, api.OK)
	n = reopened(t, 0, d, nil)
	if b, index, ok := n.Restored(); len(b) != 1 || index != 12 || !ok {
		t.Fatalf("Restored: %v, %d, %v", b, index, ok)
	}
	if i, _, e := n.Propose(nil); i != 0 || e != api.ErrLeader {
		t.Fatalf("Propose: %d, %v", i, e)
	}
	for range 13 {
		n.Tick()
	}
	if i, term, e := n.Propose(nil); i != 14 || term != 3 || e != api.OK {
		t.Fatalf("Propose: %d, %d, %v", i, term, e)
	}
}

// A snapshot has the members as of its index, not those that came behind.
func TestSnapshotMembers(t *testing.T) {
	for index := range 7 {
		w := newWorld(t, 1, 1024, upTo(4), []int{0, 1})
		w.fair(13) // 1: nothing
		w.mustPropose(0, "a")
		w.mustChange(0, true, 2) // 3
		w.fair(5)
		w.mustPropose(0, "b")
		w.mustChange(0, true, 3) // 5
		w.fair(5)
		w.mustPropose(0, "c")
		w.fair(5)
		if e := w.node(0).Snapshot(index, w.states[index]); e != api.OK {
			t.Fatalf("Snapshot(%d): %v", index, e)
		}
		w.boot(w.seat(0), nil)
		if s := w.node(0).Status(); !slices.Equal(s.Members, upTo(4)) || s.Last != 6 || s.Commit != index {
			t.Fatalf("with a snapshot at %d it is %+v", index, s)
		}
		// Of who is handed it, and nothing else as yet, the members are the snapshot's.
		w.fair(40)
		if e := w.leader().n.Snapshot(index, w.states[index]); e != api.OK {
			t.Fatalf("Snapshot(%d): %v", index, e)
		}
		who := w.leader().id
		s := &seat{id: 9, d: sector.New(1024)}
		w.seats = append(w.seats, s)
		w.open(s, nil)
		first := true
		w.cut = func(from, to int) bool {
			if to != 9 || first && len(s.n.Status().Members) == 0 {
				return false
			}
			first = false
			return true
		}
		w.mustChange(who, true, 9)
		w.fair(4)
		want := [][]int{{0, 1}, {0, 1}, {0, 1}, {0, 1, 2}, {0, 1, 2}, upTo(4), upTo(4)}[index]
		if st := s.n.Status(); !slices.Equal(st.Members, want) || st.Last != index || st.Commit != index {
			t.Fatalf("with a snapshot at %d it is %+v", index, st)
		}
	}
}

// P17.2: who is too far behind is handed the snapshot, and tells it once; who isn't is not.
func TestRestored(t *testing.T) {
	for _, first := range []int{3, 4, 5, 6, 7} {
		w := newWorld(t, 1, 1024, upTo(3), upTo(3))
		w.fair(13)
		for i := range 8 {
			if i == first {
				w.seat(2).down = true
			}
			w.mustPropose(0, strconv.Itoa(i))
			w.fair(4)
		}
		had := w.seat(2).told
		if had != first+1 {
			t.Fatalf("2 applied up to %d", had)
		}
		n := w.node(0)
		if e := n.Snapshot(6, w.states[6]); e != api.OK {
			t.Fatal(e)
		}
		w.seat(2).down = false
		n = w.node(2)
		restored := 0
		for range 4 {
			n.Tick()
			w.node(0).Tick()
			for _, p := range w.node(0).Out() {
				if p.To != 2 {
					continue
				}
				n.Handle(0, p.M)
				if b, index, ok := n.Restored(); ok {
					if restored++; index != 6 || !bytes.Equal(b, w.states[6]) {
						t.Fatalf("Restored: %x, %d", b, index)
					}
				}
				if b, index, ok := n.Restored(); ok || b != nil || index != 0 {
					t.Fatalf("told twice: %x, %d", b, index)
				}
				for _, a := range n.Out() {
					w.node(0).Handle(2, a.M)
				}
			}
		}
		want, next := 0, had+1
		if had < 6 {
			want, next = 1, 7
		}
		if restored != want {
			t.Fatalf("from %d on it was restored %d times", had, restored)
		}
		list := n.Applied()
		if len(list) != 9-next+1 || len(list) > 0 && list[0].Index != next {
			t.Fatalf("from %d on it applied %v", had, list)
		}
		if restored == 0 {
			continue
		}
		// It is kept.
		v, _ := vault.Open(w.seat(2).d)
		again, _ := raft.New(2, v, nil)
		if b, index, ok := again.Restored(); !ok || index != 6 || !bytes.Equal(b, w.states[6]) {
			t.Fatalf("Restored: %x, %d, %v", b, index, ok)
		}
		if s := again.Status(); s.Commit != 6 || s.Last != 9 || s.Term != 1 {
			t.Fatalf("it is %+v", s)
		}
	}
}

// Who has all up to the snapshot, but doesn't know that it is committed, isn't handed it.
func TestNotTooFarBehind(t *testing.T) {
	w := newWorld(t, 1, 1024, upTo(3), upTo(3))
	w.fair(13)
	for i := range 8 {
		w.mustPropose(0, strconv.Itoa(i))
		w.fair(4)
	}
	for id := range 2 {
		if e := w.node(id).Snapshot(7, w.states[7]); e != api.OK {
			t.Fatal(e)
		}
	}
	w.boot(w.seat(2), nil)
	w.boot(w.seat(0), nil)
	w.boot(w.seat(1), nil)
	if s := w.node(2).Status(); s.Commit != 0 || s.Last != 9 {
		t.Fatalf("it is %+v", s)
	}
	w.sent = func(m api.Msg) {
		if m.Kind == api.MInstall {
			t.Fatal("it is handed the snapshot")
		}
	}
	w.fair(20)
	w.mustLead(0, 2)
	if w.seat(2).told != 10 {
		t.Fatalf("it applied up to %d", w.seat(2).told)
	}
}

// R4: what is handed in is neither changed nor kept, and what is answered may be written over.
func TestMemory(t *testing.T) {
	members := []int{0, 1, 2, 77}[:3]
	w := &world{t: t, r: rand.New(rand.NewSource(1)), leaders: map[int]int{}, entries: map[int]api.Entry{}, states: map[int][]byte{0: nil}}
	for id := range 3 {
		w.seats = append(w.seats, &seat{id: id, d: sector.New(1024)})
		w.open(w.seats[id], members)
	}
	if !slices.Equal(members[:4], []int{0, 1, 2, 77}) {
		t.Fatal("members were written over")
	}
	clear(members[:4])
	w.fair(13)
	b := []byte("a command, and what lies behind")
	w.step(w.seat(0), func(n *raft.Node) { n.Propose(b[:9]) })
	if string(b) != "a command, and what lies behind" {
		t.Fatal("b was written over")
	}
	clear(b)
	for _, s := range w.seats {
		st := s.n.Status()
		clear(st.Members[:cap(st.Members)])
	}
	w.fair(4)
	if string(w.entries[2].B) != "a command" {
		t.Fatalf("applied: %v", w.entries[2])
	}
	// What is sent is of each letter alone, and may be written over when it is read.
	w.seat(2).down = true
	w.mustPropose(0, "second")
	w.mustPropose(0, "third")
	w.settle()
	state := []byte("a state, too")
	if e := w.node(0).Snapshot(3, state[:7]); e != api.OK || string(state) != "a state, too" {
		t.Fatal("Snapshot")
	}
	clear(state)
	list := w.node(1).Applied()
	for i := range list {
		clear(list[i].E.B)
	}
	two := w.node(2)
	for range 6 {
		w.node(0).Tick()
		var posts []api.Post
		for _, p := range w.node(0).Out() {
			if p.To != 2 {
				clear(p.M.B[:cap(p.M.B)])
				clear(p.M.N[:cap(p.M.N)])
				for _, list := range p.M.L {
					clear(list[:cap(list)])
				}
				continue
			}
			posts = append(posts, p)
		}
		for _, p := range posts {
			before := api.Msg{Kind: p.M.Kind, N: slices.Clone(p.M.N), B: bytes.Clone(p.M.B)}
			two.Handle(0, p.M)
			if !slices.Equal(before.N, p.M.N) || !bytes.Equal(before.B, p.M.B) {
				t.Fatal("a message was written over")
			}
			clear(p.M.B)
			clear(p.M.N)
			for _, list := range p.M.L {
				clear(list)
			}
		}
		for _, p := range two.Out() {
			w.node(0).Handle(2, p.M)
		}
	}
	got, index, ok := two.Restored()
	if !ok || index != 3 || string(got) != "a state" {
		t.Fatalf("Restored: %q, %d, %v", got, index, ok)
	}
	clear(got)
	if list := two.Applied(); len(list) != 1 || string(list[0].E.B) != "third" {
		t.Fatalf("Applied: %v", list)
	}
	if two = reopened(t, 2, w.seat(2).d, nil); two.Status().Last != 4 {
		t.Fatalf("it is %+v", two.Status())
	}
	if got, _, _ := two.Restored(); string(got) != "a state" {
		t.Fatalf("Restored: %q", got)
	}
}
