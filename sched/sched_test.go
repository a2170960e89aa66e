package sched_test

import (
	"maps"
	"math"
	"math/rand"
	"slices"
	"testing"

	"dotterel/api"
	"dotterel/clocks"
	"dotterel/fixnum"
	"dotterel/policy"
	"dotterel/sched"
)

const unit = api.Unit

// room is how many items a queue has at most.
const room = 1024

// moments are ticks at the edges, some of which are no ticks.
var moments = []int{math.MinInt, -1 << 45, -1, 0, 1, 5, 1<<45 - 1, 1 << 45, 1<<45 + 1, 1 << 47, math.MaxInt}

// numbers are what flows and versions may be, at the edges, and some that are like one another when they are cut to fewer bits.
var numbers = []int{0, 1, 2, 1 << 31, 1 << 32, 1<<32 + 1, 1 << 53, 1<<53 + 1, math.MaxInt - 1, math.MaxInt}

// wrongs are policies that aren't right, each by one part.
var wrongs = []api.Policy{
	{},
	{Reserve: 500, Limit: 1000, Burst: 2},
	{Weight: 1025},
	{Weight: -1, Limit: 5},
	{Reserve: -1, Weight: 1},
	{Reserve: 1<<20 + 1, Weight: 1},
	{Weight: 1, Limit: -1},
	{Weight: 1, Limit: 1<<20 + 1},
	{Reserve: 2, Weight: 1, Limit: 1},
	{Reserve: 2, Weight: 1, Burst: -1},
	{Reserve: 2, Weight: 1, Limit: 2, Burst: 1025},
}

// weighed, reserved and limited are policies of one part each, beside a weight.
func weighed(weight int) api.Policy           { return api.Policy{Weight: weight} }
func reserved(reserve int) api.Policy         { return api.Policy{Reserve: reserve, Weight: 1} }
func limited(limit, burst int) api.Policy     { return api.Policy{Weight: 1, Limit: limit, Burst: burst} }
func named(name int) api.Item                 { return api.Item{Name: name} }
func elsewhere(name, delta, rho int) api.Item { return api.Item{Name: name, Delta: delta, Rho: rho} }

// flow is a flow as the document words it.
type flow struct {
	version int
	p       api.Policy
	c       api.Clocks
	queue   []api.Item
}

// model is a scheduler as the document words it: of each call all flows are gone through.
type model map[int]*flow

func (m model) numbers() []int { return slices.Sorted(maps.Keys(m)) }

func (m model) set(number, version int, p api.Policy) api.Errno {
	if number < 0 || version < 0 || !policy.Right(p) {
		return api.ErrArg
	}
	if m[number] == nil {
		m[number] = &flow{}
	} else if m[number].version > version {
		return api.ErrOld
	}
	m[number].version, m[number].p = version, p
	return api.OK
}

func (m model) push(number int, i api.Item, now int) api.Errno {
	f := m[number]
	if f == nil {
		return api.ErrNone
	}
	if len(f.queue) >= room {
		return api.ErrFull
	}
	if len(f.queue) == 0 {
		least, found := 0, false
		for _, other := range m {
			if len(other.queue) > 0 && (!found || other.c.P < least) {
				least, found = other.c.P, true
			}
		}
		f.c = clocks.Wake(f.c, fixnum.At(now), least)
	}
	f.queue = append(slices.Clone(f.queue), i)
	return api.OK
}

// find is the flow that may be picked so, and whose tag is least.
func (m model) find(may func(f *flow) bool, tag func(f *flow) int) (int, bool) {
	least, found := 0, false
	for _, number := range m.numbers() {
		f := m[number]
		if len(f.queue) > 0 && may(f) && (!found || tag(f) < tag(m[least])) {
			least, found = number, true
		}
	}
	return least, found
}

func (m model) pick(now int) pick {
	now = fixnum.At(now)
	phase := api.ByReserve
	number, ok := m.find(func(f *flow) bool { return clocks.ByReserve(f.p, f.c, now) }, func(f *flow) int { return f.c.R })
	if !ok {
		phase = api.ByWeight
		number, ok = m.find(func(f *flow) bool { return clocks.ByLimit(f.p, f.c, now) }, func(f *flow) int { return f.c.P })
	}
	if !ok {
		return pick{}
	}
	f := m[number]
	i := f.queue[0]
	f.queue = f.queue[1:]
	f.c = clocks.Charge(f.p, f.c, now, phase, i.Delta, i.Rho)
	return pick{number, i, phase, true}
}

func (m model) drop(number int) int {
	many := 0
	if m[number] != nil {
		many = len(m[number].queue)
	}
	delete(m, number)
	return many
}

// pick is what a call of Pick answers.
type pick struct {
	flow  int
	i     api.Item
	phase int
	ok    bool
}

func pickOf(s *sched.Sched, now int) pick {
	number, i, phase, ok := s.Pick(now)
	return pick{number, i, phase, ok}
}

func mustSet(t *testing.T, s *sched.Sched, number, version int, p api.Policy, want api.Errno) {
	t.Helper()
	if e := s.Set(number, version, p); e != want {
		t.Fatalf("set %d, version %d, %v: %v, not %v", number, version, p, e, want)
	}
}

func mustPush(t *testing.T, s *sched.Sched, number int, i api.Item, now int, want api.Errno) {
	t.Helper()
	if e := s.Push(number, i, now); e != want {
		t.Fatalf("push %v into %d at %d: %v, not %v", i, number, now, e, want)
	}
}

func mustPick(t *testing.T, s *sched.Sched, now, number, name, phase int) {
	t.Helper()
	got := pickOf(s, now)
	if want := (pick{number, got.i, phase, true}); got != want || got.i.Name != name {
		t.Fatalf("pick at %d: %v, not item %d of flow %d in phase %d", now, got, name, number, phase)
	}
}

func mustPickNone(t *testing.T, s *sched.Sched, now int) {
	t.Helper()
	if got := pickOf(s, now); got != (pick{}) {
		t.Fatalf("pick at %d: %v, not none", now, got)
	}
}

func mustHave(t *testing.T, s *sched.Sched, number, version int, p api.Policy, c api.Clocks) {
	t.Helper()
	if v, q, d, ok := s.Get(number); v != version || q != p || d != c || !ok {
		t.Fatalf("flow %d is %d, %v, %v, %v; not %d, %v, %v", number, v, q, d, ok, version, p, c)
	}
}

func mustHaveClocks(t *testing.T, s *sched.Sched, number int, c api.Clocks) {
	t.Helper()
	if _, _, d, ok := s.Get(number); d != c || !ok {
		t.Fatalf("flow %d has clocks %v, %v; not %v", number, d, ok, c)
	}
}

func mustHaveNone(t *testing.T, s *sched.Sched, number int) {
	t.Helper()
	if v, p, c, ok := s.Get(number); v != 0 || p != (api.Policy{}) || c != (api.Clocks{}) || ok {
		t.Fatalf("flow %d, which isn't there, is %d, %v, %v, %v", number, v, p, c, ok)
	}
	if n := s.Len(number); n != 0 {
		t.Fatalf("flow %d, which isn't there, has %d items", number, n)
	}
}

// mustBe looks at all that a scheduler tells, but for what is picked.
func mustBe(t *testing.T, s *sched.Sched, m model) {
	t.Helper()
	if got := s.Flows(); !slices.Equal(got, m.numbers()) {
		t.Fatalf("flows %v, not %v", got, m.numbers())
	}
	for number, f := range m {
		mustHave(t, s, number, f.version, f.p, f.c)
		if n := s.Len(number); n != len(f.queue) {
			t.Fatalf("flow %d has %d items, not %d", number, n, len(f.queue))
		}
	}
	for _, number := range []int{math.MinInt, -1, 0, 1, 2, 3, 4, 5, 6, 1 << 32, math.MaxInt} {
		if m[number] == nil {
			mustHaveNone(t, s, number)
		}
	}
}

// of is a scheduler whose flows have these numbers, and version 1.
func of(t *testing.T, policies map[int]api.Policy) *sched.Sched {
	t.Helper()
	s := sched.New()
	for number, p := range policies {
		mustSet(t, s, number, 1, p, api.OK)
	}
	return s
}

// fill pushes so many items into a flow, whose names count from that of the first one on.
func fill(t *testing.T, s *sched.Sched, number, first, many, now int) {
	t.Helper()
	for name := first; name < first+many; name++ {
		mustPush(t, s, number, named(name), now, api.OK)
	}
}

// P12.1, P12.2: a new scheduler has no flows, and each has flows of its own.
func TestNew(t *testing.T) {
	other := of(t, map[int]api.Policy{1: weighed(1)})
	fill(t, other, 1, 7, 1, 0)
	s := sched.New()
	for range 2 {
		mustBe(t, s, model{})
		for _, now := range moments {
			mustPickNone(t, s, now)
			mustPush(t, s, 1, named(1), now, api.ErrNone)
		}
		if n := s.Drop(1); n != 0 {
			t.Fatalf("%d items dropped", n)
		}
	}
}

// P12.1: any number and version from 0 on; each flow stands for itself.
func TestSet(t *testing.T) {
	s := sched.New()
	for i, number := range numbers {
		for _, version := range numbers {
			mustSet(t, s, number, version, weighed(1+i), api.OK)
			mustHave(t, s, number, version, weighed(1+i), api.Clocks{})
		}
	}
	if got := s.Flows(); !slices.Equal(got, numbers) {
		t.Fatalf("flows %v", got)
	}
	for i, number := range numbers {
		mustHave(t, s, number, math.MaxInt, weighed(1+i), api.Clocks{})
	}
}

// P12.1: policies at their bounds are kept whole.
func TestSetPolicies(t *testing.T) {
	s := sched.New()
	for version, p := range []api.Policy{
		weighed(1), weighed(1024), {Weight: 1, Burst: 1024}, reserved(1 << 20), reserved(1), limited(1, 0), limited(1<<20, 1024),
		{Reserve: 1 << 20, Weight: 1024, Limit: 1 << 20, Burst: 1024}, {Reserve: 3, Weight: 7, Limit: 4, Burst: 5},
	} {
		mustSet(t, s, 4, version, p, api.OK)
		mustHave(t, s, 4, version, p, api.Clocks{})
	}
}

// P12.1: what is wrong with an argument is told, first of all, and changes nothing.
func TestSetWrong(t *testing.T) {
	s := of(t, map[int]api.Policy{1: reserved(5)})
	mustSet(t, s, 1, 9, reserved(6), api.OK)
	for _, below := range []int{-1, -2, -1 << 32, math.MinInt} {
		mustSet(t, s, below, 9, reserved(7), api.ErrArg)
		mustSet(t, s, below, 0, reserved(7), api.ErrArg)
		mustSet(t, s, 1, below, reserved(7), api.ErrArg)
		mustSet(t, s, 2, below, reserved(7), api.ErrArg)
	}
	for _, p := range wrongs {
		for _, version := range []int{0, 8, 9, 10} {
			mustSet(t, s, 1, version, p, api.ErrArg)
			mustSet(t, s, 2, version, p, api.ErrArg)
		}
	}
	mustBe(t, s, model{1: {version: 9, p: reserved(6)}})
}

// P12.1: a version that is less than the flow's is old; the same one isn't.
func TestSetOld(t *testing.T) {
	s := of(t, map[int]api.Policy{1: weighed(1), 2: weighed(1)})
	mustSet(t, s, 1, 5, weighed(2), api.OK)
	for _, old := range []int{0, 1, 4} {
		mustSet(t, s, 1, old, weighed(9), api.ErrOld)
		mustHave(t, s, 1, 5, weighed(2), api.Clocks{})
	}
	mustSet(t, s, 1, 5, weighed(3), api.OK)
	mustHave(t, s, 1, 5, weighed(3), api.Clocks{})
	mustSet(t, s, 1, 6, weighed(4), api.OK)
	mustHave(t, s, 1, 6, weighed(4), api.Clocks{})
	mustSet(t, s, 2, 2, weighed(5), api.OK)
	mustSet(t, s, 1, math.MaxInt, weighed(6), api.OK)
	mustSet(t, s, 1, math.MaxInt-1, weighed(7), api.ErrOld)
	mustHave(t, s, 2, 2, weighed(5), api.Clocks{})
}

// P12.1: clocks and queue stay when a policy comes, and when it is refused.
func TestSetKeeps(t *testing.T) {
	s := of(t, map[int]api.Policy{1: {Reserve: 500, Weight: 2, Limit: 1000, Burst: 2}})
	fill(t, s, 1, 10, 3, 10)
	mustPick(t, s, 10, 1, 10, api.ByReserve)
	c := api.Clocks{R: 12 * unit, P: 512 * unit, L: 9 * unit}
	mustHaveClocks(t, s, 1, c)
	for version, p := range []api.Policy{weighed(7), reserved(1), limited(1, 1024), weighed(1024)} {
		mustSet(t, s, 1, version+1, p, api.OK)
		mustHave(t, s, 1, version+1, p, c)
		mustSet(t, s, 1, 0, reserved(9), api.ErrOld)
		mustSet(t, s, 1, 9, api.Policy{}, api.ErrArg)
		mustHave(t, s, 1, version+1, p, c)
	}
	mustPick(t, s, 10, 1, 11, api.ByWeight)
	mustHaveClocks(t, s, 1, api.Clocks{R: 12 * unit, P: 513 * unit, L: 9 * unit})
	mustPick(t, s, 10, 1, 12, api.ByWeight)
	mustSet(t, s, 1, 4, weighed(1), api.OK)
	mustHave(t, s, 1, 4, weighed(1), api.Clocks{R: 12 * unit, P: 514 * unit, L: 9 * unit})
}

// P12.1: nothing comes into a flow that isn't there, whatever its number is.
func TestPushNone(t *testing.T) {
	s := of(t, map[int]api.Policy{1: weighed(1)})
	for _, number := range []int{math.MinInt, -1, 0, 2, 1<<32 + 1, math.MaxInt} {
		for _, now := range moments {
			mustPush(t, s, number, named(5), now, api.ErrNone)
		}
	}
	mustPickNone(t, s, 5)
	mustBe(t, s, model{1: {version: 1, p: weighed(1)}})
	s.Drop(1)
	mustPush(t, s, 1, named(5), 0, api.ErrNone)
}

// P12.1: 1,024 items and no more; what is refused isn't there, and the others have room of their own.
func TestPushFull(t *testing.T) {
	s := of(t, map[int]api.Policy{1: weighed(1), 2: weighed(1)})
	fill(t, s, 1, 0, room, 3)
	c := api.Clocks{R: 3 * unit}
	for range 3 {
		mustPush(t, s, 1, named(-1), 9, api.ErrFull)
		mustHaveClocks(t, s, 1, c)
	}
	if n := s.Len(1); n != room {
		t.Fatalf("%d items", n)
	}
	fill(t, s, 2, 0, room, 3)
	s.Drop(2)
	for name := range 3 * room {
		mustPick(t, s, 3, 1, name, api.ByWeight)
		mustPush(t, s, 1, named(name+room), 3, api.OK)
		mustPush(t, s, 1, named(-1), 3, api.ErrFull)
	}
	for name := range room {
		mustPick(t, s, 3, 1, name+3*room, api.ByWeight)
	}
	mustPickNone(t, s, 3)
}

// P12.1, P12.2: items go as they came, and as they were, like ones too.
func TestItems(t *testing.T) {
	s := of(t, map[int]api.Policy{1: weighed(1)})
	items := []api.Item{}
	for _, name := range append([]int{math.MinInt, -1, 5, 5}, numbers...) {
		for _, delta := range []int{math.MinInt, -1, 0, 7, math.MaxInt} {
			items = append(items, elsewhere(name, delta, delta^1))
		}
	}
	for _, i := range items {
		mustPush(t, s, 1, i, 0, api.OK)
	}
	for n, i := range items {
		if got := pickOf(s, 0); got != (pick{1, i, api.ByWeight, true}) {
			t.Fatalf("item %d: %v, not %v", n, got, i)
		}
		if s.Len(1) != len(items)-n-1 {
			t.Fatalf("%d items are left behind %d", s.Len(1), n)
		}
	}
}

// P12.1: who wakes has R at now, if it was less, and P as the least of those that are up; who is up isn't woken.
func TestWakes(t *testing.T) {
	s := of(t, map[int]api.Policy{1: weighed(1), 2: weighed(2), 3: weighed(4), 4: weighed(1)})
	fill(t, s, 1, 0, 3, 5)
	mustHaveClocks(t, s, 1, api.Clocks{R: 5 * unit})
	fill(t, s, 1, 3, 1, 8)
	mustHaveClocks(t, s, 1, api.Clocks{R: 5 * unit})
	mustPick(t, s, 8, 1, 0, api.ByWeight)
	mustHaveClocks(t, s, 1, api.Clocks{R: 5 * unit, P: 1024 * unit})
	fill(t, s, 2, 0, 2, 9)
	mustHaveClocks(t, s, 2, api.Clocks{R: 9 * unit, P: 1024 * unit})
	mustPick(t, s, 9, 1, 1, api.ByWeight)
	mustPick(t, s, 9, 2, 0, api.ByWeight)
	mustHaveClocks(t, s, 1, api.Clocks{R: 5 * unit, P: 2048 * unit})
	mustHaveClocks(t, s, 2, api.Clocks{R: 9 * unit, P: 1536 * unit})
	fill(t, s, 3, 0, 2, 2)
	mustHaveClocks(t, s, 3, api.Clocks{R: 2 * unit, P: 1536 * unit})
	mustHaveClocks(t, s, 4, api.Clocks{})
}

// P12.1: who slept counts for no other one's waking; nor does who wakes for its own.
func TestWakesBesideSleepers(t *testing.T) {
	s := of(t, map[int]api.Policy{1: weighed(1), 2: weighed(2), 3: weighed(4)})
	fill(t, s, 1, 0, 1, 1)
	mustPick(t, s, 1, 1, 0, api.ByWeight)
	mustHaveClocks(t, s, 1, api.Clocks{R: unit, P: 1024 * unit})
	// All sleep: least is 0, though P of 1 is greater.
	fill(t, s, 2, 0, 3, 2)
	mustHaveClocks(t, s, 2, api.Clocks{R: 2 * unit})
	mustPick(t, s, 2, 2, 0, api.ByWeight)
	// 1 sleeps, and its P stays, which is greater than that of 2.
	fill(t, s, 1, 1, 1, 7)
	mustHaveClocks(t, s, 1, api.Clocks{R: 7 * unit, P: 1024 * unit})
	mustPick(t, s, 7, 2, 1, api.ByWeight)
	mustPick(t, s, 7, 1, 1, api.ByWeight)
	mustPick(t, s, 7, 2, 2, api.ByWeight)
	mustHaveClocks(t, s, 1, api.Clocks{R: 7 * unit, P: 2048 * unit})
	mustHaveClocks(t, s, 2, api.Clocks{R: 2 * unit, P: 1536 * unit})
	// R stays, where now is less; P stays, where nobody is up.
	fill(t, s, 1, 2, 1, 6)
	mustHaveClocks(t, s, 1, api.Clocks{R: 7 * unit, P: 2048 * unit})
	// 3 never was up: it comes to 1, not to itself, nor to 2, which sleeps.
	fill(t, s, 3, 0, 1, 6)
	mustHaveClocks(t, s, 3, api.Clocks{R: 6 * unit, P: 2048 * unit})
}

// P12.1: who is dropped counts for nobody's waking.
func TestWakesBehindDrop(t *testing.T) {
	s := of(t, map[int]api.Policy{1: weighed(1), 2: weighed(2), 3: weighed(4)})
	fill(t, s, 2, 0, 2, 0)
	mustPick(t, s, 0, 2, 0, api.ByWeight)
	fill(t, s, 1, 0, 2, 0)
	mustPick(t, s, 0, 1, 0, api.ByWeight)
	s.Drop(2)
	fill(t, s, 3, 0, 1, 0)
	mustHaveClocks(t, s, 3, api.Clocks{P: 1536 * unit})
}

// P12.1, P1, R5: moments that are no ticks, and those that no tag has.
func TestMoments(t *testing.T) {
	for _, r := range []struct{ now, tag int }{
		{math.MinInt, 0}, {-1, 0}, {0, 0}, {1, unit}, {1<<45 - 1, api.MaxTag - unit}, {1 << 45, api.MaxTag},
		{1<<45 + 1, api.MaxTag}, {1 << 47, api.MaxTag}, {1 << 48, api.MaxTag}, {1<<48 + 1, api.MaxTag}, {math.MaxInt, api.MaxTag},
	} {
		s := of(t, map[int]api.Policy{1: reserved(1000), 2: {Weight: 1, Limit: 1000}})
		fill(t, s, 1, 0, 1, r.now)
		fill(t, s, 2, 0, 1, r.now)
		mustHaveClocks(t, s, 1, api.Clocks{R: r.tag})
		mustHaveClocks(t, s, 2, api.Clocks{R: r.tag})
		mustPick(t, s, r.now, 1, 0, api.ByReserve)
		mustHaveClocks(t, s, 1, api.Clocks{R: fixnum.Add(r.tag, unit), P: 1024 * unit})
		mustPick(t, s, r.now, 2, 0, api.ByWeight)
		mustHaveClocks(t, s, 2, api.Clocks{R: r.tag, P: 1024 * unit, L: fixnum.Add(r.tag, unit)})
	}
}

// P12.2: by reservation the least R goes first, of like ones the least number.
func TestByReserve(t *testing.T) {
	s := of(t, map[int]api.Policy{1: reserved(500), 2: reserved(500), 3: reserved(500), 4: weighed(1024)})
	fill(t, s, 3, 30, 3, 4)
	fill(t, s, 4, 40, 3, 4)
	fill(t, s, 2, 20, 3, 5)
	fill(t, s, 1, 10, 3, 5)
	mustPick(t, s, 5, 3, 30, api.ByReserve)
	mustPick(t, s, 5, 1, 10, api.ByReserve)
	mustPick(t, s, 5, 2, 20, api.ByReserve)
	mustPick(t, s, 5, 4, 40, api.ByWeight)
	mustPick(t, s, 6, 3, 31, api.ByReserve)
	mustPick(t, s, 9, 1, 11, api.ByReserve)
	mustPick(t, s, 9, 2, 21, api.ByReserve)
	mustPick(t, s, 9, 3, 32, api.ByReserve)
	mustPick(t, s, 9, 1, 12, api.ByReserve)
	mustPick(t, s, 9, 2, 22, api.ByReserve)
	mustPick(t, s, 9, 4, 41, api.ByWeight)
}

// P12.2: a reservation is due at its very tag; ahead of it the flow goes by weight, and its R stays.
func TestDue(t *testing.T) {
	s := of(t, map[int]api.Policy{1: reserved(1000)})
	fill(t, s, 1, 0, 6, 10)
	mustPick(t, s, 10, 1, 0, api.ByReserve)
	mustPick(t, s, 10, 1, 1, api.ByWeight)
	mustPick(t, s, 10, 1, 2, api.ByWeight)
	mustHaveClocks(t, s, 1, api.Clocks{R: 11 * unit, P: 3 * 1024 * unit})
	mustPick(t, s, 11, 1, 3, api.ByReserve)
	mustPick(t, s, 11, 1, 4, api.ByWeight)
	// At a moment that lies back it isn't due.
	mustPick(t, s, 0, 1, 5, api.ByWeight)
	mustHaveClocks(t, s, 1, api.Clocks{R: 12 * unit, P: 6 * 1024 * unit})
}

// P12.2: by weight the least P goes first, of like ones the least number; those that have a reservation, too.
func TestByWeight(t *testing.T) {
	s := of(t, map[int]api.Policy{1: weighed(1), 2: weighed(2), 3: weighed(2), 4: {Reserve: 1, Weight: 4}})
	for number := 4; number > 0; number-- {
		fill(t, s, number, 0, 10, 0)
	}
	mustPick(t, s, 0, 4, 0, api.ByReserve)
	for i, number := range []int{1, 2, 3, 4, 2, 3, 4, 4, 1, 2, 3, 4, 4, 2, 3, 4, 4} {
		if got := pickOf(s, 0); got.flow != number || got.phase != api.ByWeight {
			t.Fatalf("pick %d: %v, not flow %d", i, got, number)
		}
	}
}

// P12.2: who is beyond its limit is passed over, by reservation as by weight, however many they are; at its very tag it may go.
func TestLimited(t *testing.T) {
	s := of(t, map[int]api.Policy{
		1: {Reserve: 1000, Weight: 1024, Limit: 1000}, 2: {Reserve: 1000, Weight: 1024, Limit: 1000},
		3: {Reserve: 500, Weight: 1}, 4: {Weight: 1, Limit: 500}, 5: weighed(1),
	})
	for number := range 5 {
		mustPush(t, s, number+1, elsewhere(0, 9, 0), 0, api.OK)
		fill(t, s, number+1, 1, 3, 0)
	}
	for number := range 3 {
		mustPick(t, s, 0, number+1, 0, api.ByReserve)
	}
	mustPick(t, s, 0, 4, 0, api.ByWeight)
	mustPick(t, s, 0, 5, 0, api.ByWeight)
	// R of 1 and 2 is due at 1, but their limit is at 10, and that of 4 at 20; theirs is the least P.
	mustPick(t, s, 1, 3, 1, api.ByWeight)
	mustPick(t, s, 2, 3, 2, api.ByReserve)
	mustPick(t, s, 2, 5, 1, api.ByWeight)
	mustPick(t, s, 2, 5, 2, api.ByWeight)
	mustPick(t, s, 3, 3, 3, api.ByWeight)
	mustPick(t, s, 3, 5, 3, api.ByWeight)
	for now := range 10 {
		mustPickNone(t, s, now)
	}
	mustPick(t, s, 10, 1, 1, api.ByReserve)
	mustPick(t, s, 10, 2, 1, api.ByReserve)
	mustPickNone(t, s, 10)
	mustPick(t, s, 11, 1, 2, api.ByReserve)
	mustPick(t, s, 12, 2, 2, api.ByReserve)
	mustPick(t, s, 12, 1, 3, api.ByReserve)
	mustPickNone(t, s, 12)
	mustPick(t, s, 20, 2, 3, api.ByReserve)
	mustPick(t, s, 20, 4, 1, api.ByWeight)
	mustPickNone(t, s, 21)
}

// P12.2: where nothing may be picked, nothing changes, however often it is tried.
func TestPickNone(t *testing.T) {
	p := api.Policy{Reserve: 1, Weight: 1, Limit: 1}
	s := of(t, map[int]api.Policy{1: p, 2: weighed(1)})
	fill(t, s, 1, 0, 3, 0)
	mustPick(t, s, 0, 1, 0, api.ByReserve)
	c := api.Clocks{R: 1000 * unit, P: 1024 * unit, L: 1000 * unit}
	for _, now := range []int{math.MinInt, -1, 0, 1, 500, 999} {
		mustPickNone(t, s, now)
		mustHave(t, s, 1, 1, p, c)
		mustHave(t, s, 2, 1, weighed(1), api.Clocks{})
	}
	if s.Len(1) != 2 || s.Len(2) != 0 {
		t.Fatalf("%d and %d items", s.Len(1), s.Len(2))
	}
	mustPick(t, s, 1000, 1, 1, api.ByReserve)
}

// P12.2: clocks are charged for what was done elsewhere ahead of the very item that goes.
func TestCharges(t *testing.T) {
	s := of(t, map[int]api.Policy{1: {Reserve: 500, Weight: 2, Limit: 1000, Burst: 2}})
	mustPush(t, s, 1, elsewhere(7, 0, 0), 10, api.OK)
	mustPush(t, s, 1, elsewhere(8, 2, 1), 10, api.OK)
	mustPush(t, s, 1, elsewhere(9, 3, 2), 10, api.OK)
	mustHaveClocks(t, s, 1, api.Clocks{R: 10 * unit})
	mustPick(t, s, 10, 1, 7, api.ByReserve)
	mustHaveClocks(t, s, 1, api.Clocks{R: 12 * unit, P: 512 * unit, L: 9 * unit})
	mustPick(t, s, 10, 1, 8, api.ByWeight)
	mustHaveClocks(t, s, 1, api.Clocks{R: 14 * unit, P: 2048 * unit, L: 12 * unit})
	mustPick(t, s, 20, 1, 9, api.ByReserve)
	mustHaveClocks(t, s, 1, api.Clocks{R: 20 * unit, P: 4096 * unit, L: 22 * unit})
	if s.Len(1) != 0 {
		t.Fatalf("%d items", s.Len(1))
	}
}

// P12.2: who is dropped is there no more, with all of its items; the others stay, and who comes again begins anew.
func TestDrop(t *testing.T) {
	s := of(t, map[int]api.Policy{1: reserved(5), 2: reserved(5), 3: limited(5, 0), 4: weighed(1)})
	for _, number := range []int{math.MinInt, -1, 0, 5, math.MaxInt} {
		if n := s.Drop(number); n != 0 {
			t.Fatalf("%d items of %d", n, number)
		}
	}
	fill(t, s, 1, 10, 5, 3)
	fill(t, s, 2, 20, 2, 4)
	fill(t, s, 3, 30, room, 4)
	mustSet(t, s, 1, 9, reserved(5), api.OK)
	mustPick(t, s, 4, 1, 10, api.ByReserve)
	for _, r := range []struct{ number, many int }{{1, 4}, {1, 0}, {4, 0}, {3, room}, {3, 0}} {
		if n := s.Drop(r.number); n != r.many {
			t.Fatalf("%d items of %d, not %d", n, r.number, r.many)
		}
		mustHaveNone(t, s, r.number)
	}
	mustBe(t, s, model{2: {version: 1, p: reserved(5), c: api.Clocks{R: 4 * unit}, queue: make([]api.Item, 2)}})
	mustSet(t, s, 1, 0, reserved(7), api.OK)
	mustHave(t, s, 1, 0, reserved(7), api.Clocks{})
	mustPick(t, s, 4, 2, 20, api.ByReserve)
	mustPick(t, s, 4, 2, 21, api.ByWeight)
	mustPickNone(t, s, 4)
	fill(t, s, 1, 50, 1, 0)
	mustPick(t, s, 0, 1, 50, api.ByReserve)
	mustPickNone(t, s, math.MaxInt)
}

// P12.1, P12.2: a flow that is up is picked by what its policy is now.
func TestSetWhileUp(t *testing.T) {
	s := of(t, map[int]api.Policy{1: weighed(1), 2: weighed(1)})
	fill(t, s, 1, 10, 20, 0)
	fill(t, s, 2, 20, 20, 0)
	mustPick(t, s, 0, 1, 10, api.ByWeight)
	mustSet(t, s, 1, 1, reserved(1000), api.OK)
	mustPick(t, s, 0, 1, 11, api.ByReserve)
	mustPick(t, s, 1, 1, 12, api.ByReserve)
	mustSet(t, s, 1, 1, weighed(1), api.OK)
	mustPick(t, s, 2, 2, 20, api.ByWeight)
	mustPick(t, s, 2, 2, 21, api.ByWeight)
	mustPick(t, s, 2, 2, 22, api.ByWeight)
	mustPick(t, s, 2, 1, 13, api.ByWeight)
	mustSet(t, s, 2, 2, limited(1000, 0), api.OK)
	mustPick(t, s, 2, 2, 23, api.ByWeight)
	mustPick(t, s, 2, 1, 14, api.ByWeight)
	mustPick(t, s, 2, 1, 15, api.ByWeight)
	mustSet(t, s, 2, 2, limited(0, 0), api.OK)
	mustPick(t, s, 2, 2, 24, api.ByWeight)
	mustSet(t, s, 2, 2, weighed(1024), api.OK)
	mustPick(t, s, 2, 2, 25, api.ByWeight)
	for name := 26; name < 40; name++ {
		mustPick(t, s, 2, 2, name, api.ByWeight)
	}
}

// P12.1, P12.2: a flow that sleeps isn't picked, whatever its policy comes to be.
func TestSetWhileAsleep(t *testing.T) {
	s := of(t, map[int]api.Policy{1: weighed(1), 2: reserved(1)})
	for version, p := range []api.Policy{reserved(9), weighed(1), limited(5, 5), reserved(1 << 20)} {
		mustSet(t, s, 1, version+1, p, api.OK)
		mustPickNone(t, s, 100)
	}
	fill(t, s, 1, 0, 1, 100)
	mustPick(t, s, 100, 1, 0, api.ByReserve)
	mustPickNone(t, s, 200)
}

// P12.2, R3, R4: what Flows answers may be written over.
func TestFlowsAreACopy(t *testing.T) {
	s := of(t, map[int]api.Policy{9: weighed(1), 3: weighed(2), 5: reserved(1), 0: weighed(1)})
	for range 2 {
		got := s.Flows()
		if !slices.Equal(got, []int{0, 3, 5, 9}) {
			t.Fatalf("flows %v", got)
		}
		clear(got)
		_ = append(got[:1], 8, 8, 8)
	}
	mustHave(t, s, 9, 1, weighed(1), api.Clocks{})
}

// The chapter's example.
func TestExample(t *testing.T) {
	s := of(t, map[int]api.Policy{1: weighed(1024), 2: {Reserve: 1, Weight: 1}})
	fill(t, s, 1, 10, 2, 0)
	fill(t, s, 2, 20, 2, 0)
	mustPick(t, s, 0, 2, 20, api.ByReserve)
	mustPick(t, s, 0, 1, 10, api.ByWeight)
}

// The document's seventh example: of a limit of 1 and no burst, one operation in 1,000 ticks.
func TestSlow(t *testing.T) {
	s := of(t, map[int]api.Policy{1: limited(1, 0)})
	fill(t, s, 1, 0, 10, 0)
	for now := range 5001 {
		if now%1000 == 0 {
			mustPick(t, s, now, 1, now/1000, api.ByWeight)
		}
		mustPickNone(t, s, now)
	}
}

// P12.2: many flows, of which all but the last few by number are beyond their limit.
func TestManyFlows(t *testing.T) {
	const many = 5000
	s := sched.New()
	for number := range many {
		p := api.Policy{Reserve: 1, Weight: 1, Limit: 1}
		if number >= many-3 {
			p = weighed(1)
		}
		mustSet(t, s, number, 0, p, api.OK)
		fill(t, s, number, 10, 2, 1)
	}
	for number := range many - 3 {
		mustPick(t, s, 1, number, 10, api.ByReserve)
	}
	for i := range 6 {
		mustPick(t, s, 1, many-3+i%3, 10+i/3, api.ByWeight)
	}
	mustPickNone(t, s, 1000)
	for number := range many - 3 {
		mustPick(t, s, 1001, number, 11, api.ByReserve)
	}
	mustPickNone(t, s, math.MaxInt)
}

// somePolicy is one of few, so that tags are often like each other's, and often held back.
func somePolicy(chance *rand.Rand) api.Policy {
	if chance.Intn(12) == 0 {
		return wrongs[chance.Intn(len(wrongs))]
	}
	p := api.Policy{Weight: 1 << chance.Intn(3), Reserve: []int{0, 0, 500, 1000, 1}[chance.Intn(5)]}
	if chance.Intn(2) == 0 {
		p.Limit, p.Burst = []int{1000, 2000, 1 << 20}[chance.Intn(3)], chance.Intn(3)
	}
	return p
}

func someItem(chance *rand.Rand, name int) api.Item {
	i := named(name)
	switch chance.Intn(8) {
	case 0:
		i.Delta, i.Rho = chance.Intn(4), chance.Intn(4)
	case 1:
		i.Delta, i.Rho = moments[chance.Intn(8)], moments[chance.Intn(8)]
	}
	return i
}

// someFlow is mostly one that is there, sometimes a number beside them.
func someFlow(chance *rand.Rand) int {
	if chance.Intn(20) == 0 {
		return []int{-1, 0, 6, math.MinInt, math.MaxInt}[chance.Intn(5)]
	}
	return chance.Intn(6)
}

// someMoment goes on from now, mostly; it may lie back.
func someMoment(chance *rand.Rand, now int) int {
	switch chance.Intn(10) {
	case 0:
		return max(0, now-chance.Intn(4))
	case 1:
		return moments[chance.Intn(len(moments))]
	}
	return now
}

// step makes one call of a scheduler and of a model, whose answers must be the same.
func step(t *testing.T, chance *rand.Rand, s *sched.Sched, m model, now, name int) {
	t.Helper()
	number, at := someFlow(chance), someMoment(chance, now)
	switch n := chance.Intn(20); {
	case n < 2:
		version, p := chance.Intn(4)-chance.Intn(2), somePolicy(chance)
		mustSet(t, s, number, version, p, m.set(number, version, p))
	case n < 10:
		i := someItem(chance, name)
		mustPush(t, s, number, i, at, m.push(number, i, at))
	case n < 19 || chance.Intn(3) > 0:
		if got, want := pickOf(s, at), m.pick(at); got != want {
			t.Fatalf("pick at %d: %v, not %v", at, got, want)
		}
	default:
		if got, want := s.Drop(number), m.drop(number); got != want {
			t.Fatalf("drop %d: %d, not %d", number, got, want)
		}
	}
}

// P12.1, P12.2, P1, R1, R6: rows of calls by chance, whose answers are those of the words.
func TestRows(t *testing.T) {
	chance := rand.New(rand.NewSource(12))
	for range 400 {
		s, m, now := sched.New(), model{}, 0
		for name := range 300 {
			step(t, chance, s, m, now, name)
			mustBe(t, s, m)
			if chance.Intn(3) == 0 {
				now += chance.Intn(3)
			}
		}
	}
}

// P12.1, P12.2: long rows, in which queues fill up and run empty.
func TestLongRows(t *testing.T) {
	chance := rand.New(rand.NewSource(121))
	s, m := sched.New(), model{}
	for number := range 3 {
		p := []api.Policy{weighed(1), {Reserve: 700, Weight: 3}, {Reserve: 10, Weight: 9, Limit: 900, Burst: 4}}[number]
		mustSet(t, s, number, 0, p, m.set(number, 0, p))
	}
	for name := range 40_000 {
		now := name / 4
		if n := chance.Intn(3); name%16_000 < 8000 || n == 0 {
			number, i := chance.Intn(3), someItem(chance, name)
			mustPush(t, s, number, i, now, m.push(number, i, now))
			continue
		}
		if got, want := pickOf(s, now), m.pick(now); got != want {
			t.Fatalf("pick at %d: %v, not %v", now, got, want)
		}
	}
	mustBe(t, s, m)
}

// P12.3: who waited long enough has its burst and one at once, then one each Wide, and the others have none of it.
func TestLimitIsReached(t *testing.T) {
	for _, r := range []struct{ limit, burst, step int }{{1000, 0, 1}, {1000, 3, 1}, {500, 1000, 2}, {1, 5, 1000}, {250, 1, 4}} {
		s := of(t, map[int]api.Policy{1: limited(r.limit, r.burst), 2: {Reserve: 1, Weight: 1, Limit: 1}})
		start := 1 << 30
		mustPush(t, s, 2, elsewhere(0, 1<<20, 0), start, api.OK)
		fill(t, s, 2, 1, room-1, start)
		mustPick(t, s, start, 2, 0, api.ByReserve)
		fill(t, s, 1, 0, room, start)
		for name := range r.burst + 1 {
			mustPick(t, s, start, 1, name, api.ByWeight)
		}
		for n := range 3 {
			now := start + n*r.step
			mustPickNone(t, s, now)
			mustPickNone(t, s, now+r.step-1)
			fill(t, s, 1, room+n, 1, now)
			mustPick(t, s, now+r.step, 1, r.burst+1+n, api.ByWeight)
		}
	}
}

// runOf tells at which ticks a flow of that policy is picked, beside others that come and go: it asks for many, sleeps, and asks again; its policy comes again with newer versions.
func runOf(t *testing.T, chance *rand.Rand, p api.Policy, ticks int) []int {
	t.Helper()
	s, picks := of(t, map[int]api.Policy{7: p, 1: weighed(1), 9: reserved(400)}), []int{}
	for now := range ticks {
		if now%50 == 0 {
			mustSet(t, s, 7, now+1, p, api.OK)
		}
		if chance.Intn(30) == 0 {
			for range chance.Intn(200) {
				s.Push(7, elsewhere(0, chance.Intn(20)/19, chance.Intn(3)), now)
			}
		}
		for _, number := range []int{1, 9} {
			if chance.Intn(2) == 0 {
				s.Push(number, named(0), now)
			}
		}
		for range chance.Intn(20) {
			if number, _, _, _ := s.Pick(now); number == 7 {
				picks = append(picks, now)
			}
		}
	}
	return picks
}

// P12.3: the limit, of each span of runs by chance.
func TestLimit(t *testing.T) {
	chance, seen := rand.New(rand.NewSource(123)), 0
	for range 300 {
		p := api.Policy{Weight: 1 + chance.Intn(1024), Limit: 1 + chance.Intn(1<<chance.Intn(13)), Burst: chance.Intn(1 << chance.Intn(6))}
		p.Reserve = chance.Intn(p.Limit + 1)
		wide := (1000*unit + p.Limit - 1) / p.Limit
		picks := runOf(t, chance, p, 600)
		seen += len(picks)
		for a, from := range picks {
			for b, to := range picks[a:] {
				if n := b + 1; n > (to-from)*unit/wide+p.Burst+1 {
					t.Fatalf("%v: %d are picked from %d to %d", p, n, from, to)
				}
			}
		}
	}
	if seen < 10_000 {
		t.Fatalf("only %d were picked in all", seen)
	}
}

// someAdmitted are policies without limits that so many picks in a tick admit, with little room left or none.
func someAdmitted(chance *rand.Rand, picks int) []api.Policy {
	l := []api.Policy{}
	greatest := 1 + chance.Intn(1000*picks)
	for range 1 + chance.Intn(12) {
		p := api.Policy{Reserve: chance.Intn(greatest + 1), Weight: 1 + chance.Intn(1024)}
		if policy.Admits(picks, append(slices.Clone(l), p)) {
			l = append(l, p)
		}
	}
	// What is left over goes to one more, so that there is no room to catch up.
	for rate := 1000 * picks; rate > 0; rate -= 1 + rate/50 {
		if p := append(slices.Clone(l), reserved(rate)); policy.Admits(picks, p) {
			return p
		}
	}
	return append(l, weighed(1024))
}

// keepUp pushes into flows whose numbers are those of their policies: those that are always up ahead of all picks, the others by chance.
func keepUp(chance *rand.Rand, s *sched.Sched, always []bool, now, picks int) {
	for number, up := range always {
		for up && s.Len(number) < picks+1 {
			s.Push(number, named(0), now)
		}
		if !up && chance.Intn(3) == 0 {
			for range chance.Intn(4 * picks) {
				s.Push(number, named(0), now)
			}
		}
	}
}

// countsOf runs flows for so many ticks, and tells of each flow how many were picked ahead of each tick.
func countsOf(t *testing.T, chance *rand.Rand, l []api.Policy, always []bool, picks, ticks int) [][]int {
	t.Helper()
	s, start := sched.New(), chance.Intn(1<<40)
	counts := make([][]int, len(l))
	for number, p := range l {
		mustSet(t, s, number, 0, p, api.OK)
		counts[number] = []int{0}
	}
	for now := start; now < start+ticks; now++ {
		keepUp(chance, s, always, now, picks)
		picked := make([]int, len(l))
		for range picks + chance.Intn(2)*chance.Intn(3) {
			if number, _, _, ok := s.Pick(now); ok {
				picked[number]++
				// A tick has more than one call of each kind: others wake between picks.
				keepUp(chance, s, always, now, picks)
			}
		}
		for number, n := range picked {
			counts[number] = append(counts[number], counts[number][now-start]+n)
		}
	}
	return counts
}

// mustKeep holds each span of a flow that is always up against what is reserved for it. The tick in which it wakes is none of a span's ticks: R is at that tick then, so that all that is due in the ticks ahead of it is one operation.
func mustKeep(t *testing.T, counts []int, p api.Policy, flows int) {
	t.Helper()
	if p.Reserve == 0 {
		return
	}
	space := 1000 * unit / p.Reserve
	for from := range counts {
		for to := max(from, 1); to < len(counts); to++ {
			ticks, n := to-max(from, 1), counts[to]-counts[from]
			if least := ticks*unit/space - flows - 3; n < least {
				t.Fatalf("%v among %d flows: %d in %d ticks from %d on, not %d", p, flows, n, ticks, from, least)
			}
		}
	}
}

// P12.3: the reservation, of each span of runs by chance, of those that are up all the time.
func TestReservation(t *testing.T) {
	chance := rand.New(rand.NewSource(1203))
	for run := range 150 {
		picks := []int{1, 1, 2, 5, 64}[run%5]
		l := someAdmitted(chance, picks)
		if !policy.Admits(picks, l) {
			t.Fatalf("%d picks don't admit %v", picks, l)
		}
		always := make([]bool, len(l))
		for number := range always {
			always[number] = chance.Intn(3) > 0
		}
		counts := countsOf(t, chance, l, always, picks, 300)
		for number, up := range always {
			if up {
				mustKeep(t, counts[number], l[number], len(l))
			}
		}
	}
}

// P12.3: a small reservation is kept beside one that takes all that is left, and beside a great weight that waits as long.
func TestReservationBesideWeight(t *testing.T) {
	l := []api.Policy{weighed(1024), {Reserve: 100, Weight: 1}, {Reserve: 899, Weight: 1}, weighed(1024)}
	if !policy.Admits(1, l) {
		t.Fatal("not admitted")
	}
	chance := rand.New(rand.NewSource(1204))
	counts := countsOf(t, chance, l, []bool{true, true, true, true}, 1, 3000)
	for number, p := range l {
		mustKeep(t, counts[number], p, len(l))
	}
}
