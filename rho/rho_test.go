package rho_test

import (
	"math"
	"math/rand"
	"slices"
	"testing"

	"dotterel/api"
	"dotterel/rho"
)

// servers are numbers at the edges of their kind, and some that are like one another when they are cut to fewer bits.
var servers = []int{math.MinInt, math.MinInt + 1, -1 << 62, -1<<32 - 1, -1 << 32, -1 << 31, -257, -256, -2, -1, 0, 1, 2, 255, 256, 257, 1 << 31, 1 << 32, 1<<32 + 1, 1 << 53, 1<<53 + 1, 1 << 62, math.MaxInt - 1, math.MaxInt}

// phases are the two that are counted.
var phases = []int{api.ByReserve, api.ByWeight}

// others are phases that aren't there: around the two, and like them when they are cut to fewer bits.
var others = []int{math.MinInt, math.MinInt + 1, math.MinInt + 2, -1<<32 + 1, -1<<32 + 2, -255, -254, -2, -1, 0, 3, 4, 257, 258, 1<<31 + 1, 1<<32 + 1, 1<<32 + 2, 1<<62 + 1, math.MaxInt - 1, math.MaxInt}

// pair is what Begin and Total tell: how many, and how many of these by reservation.
type pair struct{ all, reserved int }

func (p pair) plus(q pair) pair { return pair{p.all + q.all, p.reserved + q.reserved} }

// operation is one that was done: where, and by which phase.
type operation struct{ server, phase int }

// model has all operations in their order, and how many of them there were at each server's last Begin: a tracker as the document words it.
type model struct {
	done  []operation
	begun map[int]int
}

func newModel() *model { return &model{begun: map[int]int{}} }

// count is how many operations there are from the place on for which where holds.
func (m *model) count(from int, where func(server int) bool) pair {
	var p pair
	for _, o := range m.done[from:] {
		if where(o.server) && slices.Contains(phases, o.phase) {
			p.all++
			if o.phase == api.ByReserve {
				p.reserved++
			}
		}
	}
	return p
}

func (m *model) begin(server int) pair {
	p := m.count(m.begun[server], func(s int) bool { return s != server })
	m.begun[server] = len(m.done)
	return p
}

func (m *model) at(server int) pair { return m.count(0, func(s int) bool { return s == server }) }

func (m *model) total() pair { return m.count(0, func(int) bool { return true }) }

func begin(x *rho.Tracker, server int) pair {
	delta, reserved := x.Begin(server)
	return pair{delta, reserved}
}

func total(x *rho.Tracker) pair {
	done, reserved := x.Total()
	return pair{done, reserved}
}

// doneAt lets that server do an operation by each of these phases.
func doneAt(x *rho.Tracker, server int, phases ...int) {
	for _, phase := range phases {
		x.Done(server, phase)
	}
}

func mustBegin(t *testing.T, x *rho.Tracker, server, delta, reserved int) {
	t.Helper()
	if got, want := begin(x, server), (pair{delta, reserved}); got != want {
		t.Fatalf("Begin(%d) is %v, not %v", server, got, want)
	}
}

func mustTotal(t *testing.T, x *rho.Tracker, done, reserved int) {
	t.Helper()
	if got, want := total(x), (pair{done, reserved}); got != want {
		t.Fatalf("total is %v, not %v", got, want)
	}
}

// P13.1: the zero tracker has counted nothing, and asking it changes nothing.
func TestZero(t *testing.T) {
	var x rho.Tracker
	for range 2 {
		mustTotal(t, &x, 0, 0)
		for _, server := range servers {
			mustBegin(t, &x, server, 0, 0)
		}
	}
	x.Done(1, api.ByReserve)
	mustBegin(t, &x, 2, 1, 1)
	mustTotal(t, &x, 1, 1)
}

// The chapter's example.
func TestExample(t *testing.T) {
	var x rho.Tracker
	x.Done(1, api.ByWeight)
	mustBegin(t, &x, 2, 1, 0)
	mustBegin(t, &x, 2, 0, 0)
}

// P13.1: an operation by reservation counts twice, as done and as done by reservation; one by weight as done alone.
func TestPhases(t *testing.T) {
	var x rho.Tracker
	x.Done(1, api.ByWeight)
	mustTotal(t, &x, 1, 0)
	mustBegin(t, &x, 2, 1, 0)
	x.Done(1, api.ByReserve)
	mustTotal(t, &x, 2, 1)
	mustBegin(t, &x, 2, 1, 1)
	doneAt(&x, 1, api.ByReserve, api.ByWeight, api.ByReserve)
	mustTotal(t, &x, 5, 3)
	mustBegin(t, &x, 2, 3, 2)
}

// P13.1: nothing is counted of another phase: not in all, not elsewhere, not at that server itself.
func TestOtherPhases(t *testing.T) {
	for _, phase := range others {
		var x rho.Tracker
		x.Done(1, phase)
		mustTotal(t, &x, 0, 0)
		mustBegin(t, &x, 1, 0, 0)
		mustBegin(t, &x, 2, 0, 0)
		doneAt(&x, 1, api.ByReserve, phase, api.ByWeight, phase)
		doneAt(&x, 2, phase, api.ByReserve, phase)
		mustTotal(t, &x, 3, 2)
		mustBegin(t, &x, 1, 1, 1)
		mustBegin(t, &x, 2, 2, 1)
		mustBegin(t, &x, 3, 3, 2)
	}
}

// P13.1: a server is never told of what it did itself: not ahead of its first Begin, not between two, not of one that others were told of.
func TestOwn(t *testing.T) {
	var x rho.Tracker
	doneAt(&x, 1, api.ByReserve, api.ByWeight)
	mustBegin(t, &x, 1, 0, 0)
	doneAt(&x, 1, api.ByReserve)
	mustBegin(t, &x, 1, 0, 0)
	mustBegin(t, &x, 2, 3, 2)
	doneAt(&x, 2, api.ByWeight)
	doneAt(&x, 1, api.ByReserve)
	mustBegin(t, &x, 1, 1, 0)
	mustBegin(t, &x, 2, 1, 1)
}

// P13.1: what was done ahead of the first Begin of a server, at all others, is told by it.
func TestFirstBegin(t *testing.T) {
	var x rho.Tracker
	doneAt(&x, 1, api.ByReserve)
	doneAt(&x, 2, api.ByWeight, api.ByWeight)
	doneAt(&x, 3, api.ByReserve, api.ByReserve, api.ByWeight)
	mustBegin(t, &x, 3, 3, 1)
	mustBegin(t, &x, 2, 4, 3)
	mustBegin(t, &x, 1, 5, 2)
	mustBegin(t, &x, 4, 6, 3)
}

// P13.1: an operation is told once to each other server, and what one of them is told is not taken from another.
func TestToldOnce(t *testing.T) {
	var x rho.Tracker
	doneAt(&x, 1, api.ByReserve, api.ByWeight)
	for _, server := range []int{2, 3, 4} {
		mustBegin(t, &x, server, 2, 1)
	}
	for _, server := range []int{3, 4, 2, 1, 2, 3, 4} {
		mustBegin(t, &x, server, 0, 0)
	}
	doneAt(&x, 1, api.ByWeight)
	mustBegin(t, &x, 3, 1, 0)
	doneAt(&x, 3, api.ByReserve)
	mustBegin(t, &x, 3, 0, 0)
	mustBegin(t, &x, 2, 2, 1)
	mustBegin(t, &x, 1, 1, 1)
}

// P13.1: the total only grows by what is done: Begin changes nothing of it.
func TestTotal(t *testing.T) {
	var x rho.Tracker
	for i := range 9 {
		mustTotal(t, &x, 3*i, i)
		doneAt(&x, i, api.ByWeight, api.ByReserve, api.ByWeight)
		mustTotal(t, &x, 3*i+3, i+1)
		begin(&x, i)
		begin(&x, 4)
		mustTotal(t, &x, 3*i+3, i+1)
	}
}

// P13.1: any number is a server, and no two are one.
func TestAnyServer(t *testing.T) {
	var x rho.Tracker
	// Each has done one more than the one ahead of it: where two are taken for one, both are told another number.
	all := pair{}
	for i, server := range servers {
		x.Done(server, api.ByReserve)
		for range i {
			x.Done(server, api.ByWeight)
		}
		all = all.plus(pair{1 + i, 1})
	}
	for i, server := range servers {
		mustBegin(t, &x, server, all.all-1-i, all.reserved-1)
		mustBegin(t, &x, server, 0, 0)
	}
	mustTotal(t, &x, all.all, all.reserved)
	for _, server := range servers {
		x.Done(server, api.ByReserve)
	}
	for i, server := range servers {
		// What others were told ahead of it changes nothing for it.
		mustBegin(t, &x, server, len(servers)-1, len(servers)-1)
		mustBegin(t, &x, 1000+i, all.all+len(servers), all.reserved+len(servers))
	}
}

// P13.1: two trackers have nothing in common.
func TestTrackersAreApart(t *testing.T) {
	var x, y rho.Tracker
	doneAt(&x, 1, api.ByReserve)
	mustBegin(t, &y, 2, 0, 0)
	mustTotal(t, &y, 0, 0)
	doneAt(&y, 1, api.ByWeight)
	mustBegin(t, &x, 2, 1, 1)
	mustBegin(t, &y, 2, 1, 0)
	mustTotal(t, &x, 1, 1)
	mustTotal(t, &y, 1, 0)
}

// held is a tracker, the model that it is held against, and what it told each server in all.
type held struct {
	x    rho.Tracker
	m    *model
	told map[int]pair
}

func newHeld() *held { return &held{m: newModel(), told: map[int]pair{}} }

// sum is what that server was told, and what was done there.
func (h *held) sum(server int) pair { return h.told[server].plus(h.m.at(server)) }

// begin calls Begin: it must tell what the model tells, and the server's sum must be the total behind it.
func (h *held) begin(t *testing.T, server int) {
	t.Helper()
	got, want := begin(&h.x, server), h.m.begin(server)
	if got != want {
		t.Fatalf("Begin(%d) is %v, not %v, behind %v", server, got, want, h.m.done)
	}
	h.told[server] = h.told[server].plus(got)
	if sum, all := h.sum(server), total(&h.x); sum != all {
		t.Fatalf("server %d was told of and did %v, not the total %v", server, sum, all)
	}
}

func (h *held) done(server, phase int) {
	h.x.Done(server, phase)
	h.m.done = append(h.m.done, operation{server, phase})
}

// look looks at the total, and at these servers' sums, which must be at most that.
func (h *held) look(t *testing.T, servers []int) {
	t.Helper()
	all := total(&h.x)
	if want := h.m.total(); all != want {
		t.Fatalf("total is %v, not %v", all, want)
	}
	for _, server := range servers {
		if sum := h.sum(server); sum.all > all.all || sum.reserved > all.reserved {
			t.Fatalf("server %d was told of and did %v, more than the total %v", server, sum, all)
		}
	}
}

// P13.1 and P13.2: every row of five calls with three servers.
func TestShortRows(t *testing.T) {
	few := []int{0, 1, 2}
	// The calls at a server: Begin (-1), and Done by each of these phases.
	kinds := []int{-1, api.ByReserve, api.ByWeight, 0}
	calls := len(few) * len(kinds)
	for row := range calls * calls * calls * calls * calls {
		h := newHeld()
		for range 5 {
			server, kind := few[row%len(few)], kinds[row%calls/len(few)]
			row /= calls
			if kind < 0 {
				h.begin(t, server)
			} else {
				h.done(server, kind)
			}
			h.look(t, few)
		}
	}
}

// P13.1 and P13.2: rows by chance, of more calls and more servers.
func TestRows(t *testing.T) {
	chance := rand.New(rand.NewSource(13))
	for range 300 {
		some := make([]int, 1+chance.Intn(8))
		for i := range some {
			some[i] = servers[chance.Intn(len(servers))]
		}
		// Of so many calls one is a Begin: rows in which much is done between two, and rows in which little is.
		seldom := 1 + chance.Intn(9)
		h := newHeld()
		for range 150 {
			server := some[chance.Intn(len(some))]
			switch chance.Intn(seldom + 2) {
			case 0:
				h.begin(t, server)
			case 1:
				h.done(server, others[chance.Intn(len(others))])
			default:
				h.done(server, phases[chance.Intn(len(phases))])
			}
			h.look(t, some)
		}
		for _, server := range some {
			h.begin(t, server)
		}
	}
}

// P13.1: many servers, and many operations.
func TestMany(t *testing.T) {
	const many, each = 2000, 200
	var x rho.Tracker
	for i := range many * each {
		x.Done(i%many, phases[i%2])
	}
	mustTotal(t, &x, many*each, many*each/2)
	for server := range many {
		// At every second one all was done by reservation, at the others nothing.
		own := each * (1 - server%2)
		mustBegin(t, &x, server, (many-1)*each, many*each/2-own)
		mustBegin(t, &x, server, 0, 0)
	}
	mustTotal(t, &x, many*each, many*each/2)
}
