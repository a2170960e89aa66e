package clocks_test

import (
	"math"
	"math/big"
	"math/rand"
	"testing"

	"dotterel/api"
	"dotterel/clocks"
)

const unit = api.Unit

// top is the greatest tag.
const top = api.MaxTag

// edges are the numbers at which an answer may turn, some between them, and some that look like those when they are cut to fewer bits.
var edges = []int{
	math.MinInt, math.MinInt + 1, -top - 1, -top, -1 << 32, -1<<20 - 1, -2, -1,
	0, 1, 2, 3, unit - 1, unit, unit + 1, 1<<20 - 1, 1 << 20, 1<<20 + 1, 65_536_000,
	1<<32 - 1, 1 << 32, 1<<32 + 1, 1 << 36, 1 << 45, 1 << 46,
	top - 1<<46, top - 1<<36, top - unit, top - 1, top, top + 1, 1 << 62, math.MaxInt - 1, math.MaxInt,
}

// rights are policies at the bounds of what is right, and between them.
var rights = []api.Policy{
	{Weight: 1},
	{Weight: 1024, Burst: 1024},
	{Reserve: 1, Weight: 1023},
	{Reserve: 1 << 20, Weight: 3},
	{Reserve: 3, Weight: 7, Burst: 5},
	{Weight: 1000, Limit: 1},
	{Weight: 1, Limit: 1, Burst: 1024},
	{Weight: 2, Limit: 1 << 20, Burst: 1},
	{Reserve: 1, Weight: 5, Limit: 1},
	{Reserve: 3, Weight: 1, Limit: 7, Burst: 3},
	{Reserve: 500, Weight: 2, Limit: 1000, Burst: 2},
	{Reserve: 1 << 20, Weight: 1024, Limit: 1 << 20, Burst: 1024},
}

// wrongs are policies that aren't right, each by one part.
var wrongs = []api.Policy{
	{},
	{Reserve: 500, Limit: 1000, Burst: 2},
	{Weight: 1025},
	{Weight: -1, Limit: 5},
	{Reserve: -1, Weight: 1},
	{Reserve: 1<<20 + 1, Weight: 1},
	{Weight: 1, Limit: -1},
	{Weight: 1, Limit: 1<<20 + 1},
	{Reserve: 2, Weight: 1, Limit: 1},
	{Reserve: 2, Weight: 1, Burst: -1},
	{Reserve: 2, Weight: 1, Limit: 2, Burst: 1025},
	{Reserve: 1<<32 + 1, Weight: 1<<32 + 1, Limit: 1<<32 + 2, Burst: 1 << 32},
	{Reserve: math.MinInt, Weight: math.MinInt, Limit: math.MinInt, Burst: math.MinInt},
	{Reserve: math.MaxInt, Weight: math.MaxInt, Limit: math.MaxInt, Burst: math.MaxInt},
}

// limited is a policy that has a limit and a burst alone.
func limited(limit, burst int) api.Policy { return api.Policy{Weight: 1, Limit: limit, Burst: burst} }

// reserved is a policy that has a reservation alone.
func reserved(reserve int) api.Policy { return api.Policy{Reserve: reserve, Weight: 1} }

// charge is a call of Charge, beside its policy and clocks.
type charge struct{ now, phase, delta, rho int }

func (g charge) of(p api.Policy, c api.Clocks) api.Clocks {
	return clocks.Charge(p, c, g.now, g.phase, g.delta, g.rho)
}

func mustCharge(t *testing.T, p api.Policy, c api.Clocks, g charge, want api.Clocks) {
	t.Helper()
	if got := g.of(p, c); got != want {
		t.Errorf("%v with %v, charged %+v: %v, not %v", c, p, g, got, want)
	}
}

func mustWake(t *testing.T, c api.Clocks, now, least int, want api.Clocks) {
	t.Helper()
	if got := clocks.Wake(c, now, least); got != want {
		t.Errorf("%v, woken at %d with least %d: %v, not %v", c, now, least, got, want)
	}
}

// mustGo asks whether an operation may be picked, by limit and by reservation.
func mustGo(t *testing.T, p api.Policy, c api.Clocks, now int, byLimit, byReserve bool) {
	t.Helper()
	if got := clocks.ByLimit(p, c, now); got != byLimit {
		t.Errorf("%v with %v at %d, by limit: %v", c, p, now, got)
	}
	if got := clocks.ByReserve(p, c, now); got != byReserve {
		t.Errorf("%v with %v at %d, by reservation: %v", c, p, now, got)
	}
}

// P11.1: each clock that is woken, below, at, and above what it is woken to; and the one that isn't.
func TestWake(t *testing.T) {
	mustWake(t, api.Clocks{}, 0, 0, api.Clocks{})
	mustWake(t, api.Clocks{}, 5, 3, api.Clocks{R: 5, P: 3})
	mustWake(t, api.Clocks{}, 3, 5, api.Clocks{R: 3, P: 5})
	mustWake(t, api.Clocks{R: 9, P: 9, L: 9}, 10, 8, api.Clocks{R: 10, P: 9, L: 9})
	mustWake(t, api.Clocks{R: 9, P: 9, L: 9}, 8, 10, api.Clocks{R: 9, P: 10, L: 9})
	mustWake(t, api.Clocks{R: 9, P: 9, L: 9}, 9, 9, api.Clocks{R: 9, P: 9, L: 9})
	mustWake(t, api.Clocks{R: 7, P: 8, L: 1}, 100, 200, api.Clocks{R: 100, P: 200, L: 1})
	mustWake(t, api.Clocks{R: 7, P: 8, L: top}, 0, 0, api.Clocks{R: 7, P: 8, L: top})
	mustWake(t, api.Clocks{}, top, top, api.Clocks{R: top, P: top})
	mustWake(t, api.Clocks{R: top, P: top, L: top}, top-1, 0, api.Clocks{R: top, P: top, L: top})
	mustWake(t, api.Clocks{R: 1, P: 2, L: 3}, -1, math.MinInt, api.Clocks{R: 1, P: 2, L: 3})
}

// P11.1, P1, R1: any numbers; each clock hangs on its own number alone.
func TestWakeAsWorded(t *testing.T) {
	for _, a := range edges {
		for _, b := range edges {
			greater := a
			if b > a {
				greater = b
			}
			for _, other := range []int{math.MinInt, -1, 0, 7, top, math.MaxInt} {
				mustWake(t, api.Clocks{R: a, P: other, L: b}, b, math.MinInt, api.Clocks{R: greater, P: other, L: b})
				mustWake(t, api.Clocks{R: other, P: a, L: b}, math.MinInt, b, api.Clocks{R: other, P: greater, L: b})
			}
		}
	}
}

// P11.1: the limit ahead of now, at it, and behind it; none at all.
func TestByLimit(t *testing.T) {
	for _, l := range []int{1, 2, unit, 65_536_000, top - 1} {
		for _, limit := range []int{1, 1000, 1 << 20} {
			for _, burst := range []int{0, 1, 1024} {
				c := api.Clocks{R: top, P: top, L: l}
				mustGo(t, limited(limit, burst), c, l-1, false, false)
				mustGo(t, limited(limit, burst), c, l, true, false)
				mustGo(t, limited(limit, burst), c, l+1, true, false)
			}
		}
		mustGo(t, limited(0, 3), api.Clocks{L: l}, 0, true, false)
	}
	mustGo(t, limited(1, 0), api.Clocks{}, 0, true, false)
	mustGo(t, limited(1, 0), api.Clocks{}, -1, false, false)
	mustGo(t, limited(1, 0), api.Clocks{L: top}, math.MaxInt, true, false)
	mustGo(t, limited(0, 0), api.Clocks{L: math.MaxInt}, math.MinInt, true, false)
}

// P11.1: the reservation ahead of now, at it, and behind it; none at all; and one that is due, but not by limit.
func TestByReserve(t *testing.T) {
	for _, r := range []int{1, 2, unit, 65_536_000, top - 1} {
		for _, reserve := range []int{1, 1000, 1 << 20} {
			p, c := reserved(reserve), api.Clocks{R: r, P: top, L: top}
			mustGo(t, p, c, r-1, true, false)
			mustGo(t, p, c, r, true, true)
			mustGo(t, p, c, r+1, true, true)
			p.Limit = 1 << 20
			mustGo(t, p, c, r, false, false)
			mustGo(t, p, api.Clocks{R: r, L: r + 1}, r, false, false)
			mustGo(t, p, api.Clocks{R: r, L: r}, r, true, true)
			mustGo(t, p, api.Clocks{R: r, L: r - 1}, r, true, true)
			mustGo(t, p, api.Clocks{R: r + 1, L: r}, r, true, false)
		}
	}
	mustGo(t, reserved(0), api.Clocks{}, 10*unit, true, false)
	mustGo(t, api.Policy{Weight: 1, Limit: 9}, api.Clocks{}, 10*unit, true, false)
	mustGo(t, reserved(1), api.Clocks{}, 0, true, true)
	mustGo(t, reserved(1), api.Clocks{}, -1, true, false)
}

// P11.1, P1, R1: any numbers, with policies that are right, and with those that aren't.
func TestMayBePickedAsWorded(t *testing.T) {
	for _, now := range edges {
		for _, r := range edges {
			for _, l := range edges {
				c := api.Clocks{R: r, P: l, L: l}
				for _, p := range rights {
					byLimit := p.Limit == 0 || !(l > now)
					mustGo(t, p, c, now, byLimit, p.Reserve > 0 && !(r > now) && byLimit)
				}
				for _, p := range wrongs {
					mustGo(t, p, c, now, false, false)
				}
			}
		}
	}
}

// The chapter's example, and the document's seventh.
func TestExamples(t *testing.T) {
	p, c := reserved(1000), api.Clocks{R: 5 * unit}
	if got := (charge{now: 5 * unit, phase: api.ByReserve}).of(p, c); got.R != 6*unit {
		t.Errorf("by reservation R is %d", got.R)
	}
	if got := (charge{now: 5 * unit, phase: api.ByWeight}).of(p, c); got.R != 5*unit {
		t.Errorf("by weight R is %d", got.R)
	}
	p, c = limited(1, 0), charge{phase: api.ByWeight}.of(limited(1, 0), api.Clocks{})
	mustGo(t, p, c, 1000*unit-1, false, false)
	mustGo(t, p, c, 1000*unit, true, false)
}

// P11.1: R grows by spaces that are rounded down, once for the operation if it was by reservation, and once for each such one elsewhere.
func TestChargeR(t *testing.T) {
	for _, r := range []struct{ reserve, r, phase, rho, want int }{
		{1000, 0, api.ByReserve, 0, unit},
		{1000, 0, api.ByWeight, 0, 0},
		{1000, 7, api.ByReserve, 0, unit + 7},
		{1000, 7, api.ByWeight, 0, 7},
		{1000, 7, api.ByReserve, 1, 2*unit + 7},
		{1000, 7, api.ByWeight, 1, unit + 7},
		{1000, 0, api.ByReserve, 100, 101 * unit},
		{1000, 0, api.ByWeight, 100, 100 * unit},
		{3, 0, api.ByReserve, 0, 21_845_333},
		{3, 0, api.ByReserve, 2, 65_535_999},
		{7, 1, api.ByReserve, 0, 9_362_286},
		{1, 0, api.ByReserve, 0, 65_536_000},
		{1 << 20, 0, api.ByReserve, 0, 62},
		{1 << 20, 0, api.ByReserve, 1 << 20, 62 * (1<<20 + 1)},
		{1, 0, api.ByReserve, 1 << 20, 65_536_000 * (1<<20 + 1)},
		{0, 7, api.ByReserve, 5, 7},
		{0, 7, api.ByWeight, 5, 7},
		{1, top - 65_536_000, api.ByReserve, 0, top},
		{1, top - 65_536_000, api.ByReserve, 1, top},
		{1, top, api.ByReserve, 0, top},
		{1, top, api.ByWeight, 0, top},
	} {
		// Neither when it is, nor how many there were elsewhere in all, is anything to R.
		for _, now := range []int{0, 1 << 40, top} {
			for _, delta := range []int{0, 3, 1 << 20} {
				g := charge{now, r.phase, delta, r.rho}
				if got := g.of(reserved(r.reserve), api.Clocks{R: r.r}).R; got != r.want {
					t.Errorf("R %d with reservation %d, charged %+v: %d, not %d", r.r, r.reserve, g, got, r.want)
				}
			}
		}
	}
}

// P11.1: P grows by what is rounded down first, for the operation and for each one elsewhere.
func TestChargeP(t *testing.T) {
	for _, r := range []struct{ weight, p, delta, want int }{
		{1, 0, 0, 67_108_864},
		{2, 0, 0, 33_554_432},
		{3, 0, 0, 22_369_621},
		{3, 0, 2, 67_108_863},
		{3, 5, 1, 44_739_247},
		{7, 0, 0, 9_586_980},
		{7, 0, 6, 67_108_860},
		{1000, 0, 0, 67_108},
		{1023, 0, 0, 65_600},
		{1023, 0, 1022, 67_108_800},
		{1024, 0, 0, unit},
		{1024, 9, 4, 5*unit + 9},
		{1, 0, 1 << 20, 67_108_864 * (1<<20 + 1)},
		{1, top - 67_108_864, 0, top},
		{1, top - 67_108_864, 1, top},
		{1, top, 0, top},
	} {
		// Neither the phase, nor how many were by reservation, nor when it is, is anything to P.
		for _, g := range []charge{
			{0, api.ByReserve, r.delta, 0}, {0, api.ByWeight, r.delta, 0},
			{top, api.ByReserve, r.delta, 9}, {1 << 40, api.ByWeight, r.delta, 1 << 20},
		} {
			p := api.Policy{Reserve: 5, Weight: r.weight, Limit: 9, Burst: 2}
			if got := g.of(p, api.Clocks{P: r.p}).P; got != r.want {
				t.Errorf("P %d with weight %d, charged %+v: %d, not %d", r.p, r.weight, g, got, r.want)
			}
		}
	}
}

// P11.1: L is first brought up to a burst ahead of now, and grows by spans that are rounded up.
func TestChargeL(t *testing.T) {
	for _, r := range []struct{ limit, burst, l, now, delta, want int }{
		{1000, 0, 0, 0, 0, unit},
		{1000, 0, 0, 10 * unit, 0, 11 * unit},
		{1000, 0, 10*unit - 1, 10 * unit, 0, 11 * unit},
		{1000, 0, 10 * unit, 10 * unit, 0, 11 * unit},
		{1000, 0, 10*unit + 1, 10 * unit, 0, 11*unit + 1},
		{1000, 2, 0, 10 * unit, 0, 9 * unit},
		{1000, 2, 8*unit - 1, 10 * unit, 0, 9 * unit},
		{1000, 2, 8 * unit, 10 * unit, 0, 9 * unit},
		{1000, 2, 8*unit + 1, 10 * unit, 0, 9*unit + 1},
		{1000, 2, 12 * unit, 10 * unit, 0, 13 * unit},
		{1000, 2, 0, 10 * unit, 3, 12 * unit},
		// A burst that began ahead of tick 0 begins there.
		{1000, 10, 0, 10*unit - 1, 0, unit},
		{1000, 10, 0, 10 * unit, 0, unit},
		{1000, 10, 0, 10*unit + 1, 0, unit + 1},
		{1000, 1024, 0, 3 * unit, 0, unit},
		{1000, 1024, 5, 3 * unit, 1, 2*unit + 5},
		{3, 0, 0, 0, 0, 21_845_334},
		{3, 1, 0, 21_845_334, 0, 21_845_334},
		{3, 1, 0, 21_845_335, 0, 21_845_335},
		{3, 2, 0, 100_000_000, 2, 100_000_000 + 21_845_334},
		{1, 0, 0, 0, 0, 65_536_000},
		{1, 1024, 0, 1 << 40, 0, 1<<40 - 1023*65_536_000},
		{1 << 20, 0, 0, 0, 0, 63},
		{1 << 20, 1024, 0, 1 << 30, 0, 1<<30 - 1023*63},
		{1, 0, 0, 0, 1 << 20, 65_536_000 * (1<<20 + 1)},
		{1, 0, 0, top, 0, top},
		{1, 1, 0, top, 0, top},
		{1, 2, 0, top, 0, top - 65_536_000},
		{1, 2, top, 0, 0, top},
		{1, 0, top - 65_536_000, 0, 0, top},
		{1, 0, top - 65_536_000, 0, 1, top},
		// Of no limit it stays, wherever it is.
		{0, 0, 0, 10 * unit, 0, 0},
		{0, 9, 7, 10 * unit, 5, 7},
		{0, 9, top, 0, 0, top},
		{0, 9, math.MaxInt, 0, 0, math.MaxInt},
		{0, 9, -3, 0, 0, -3},
	} {
		// Neither the phase, nor how many were by reservation, is anything to L.
		for _, g := range []charge{
			{r.now, api.ByReserve, r.delta, 0}, {r.now, api.ByWeight, r.delta, 0},
			{r.now, api.ByReserve, r.delta, 9}, {r.now, api.ByWeight, r.delta, 1 << 20},
		} {
			if got := g.of(limited(r.limit, r.burst), api.Clocks{L: r.l}).L; got != r.want {
				t.Errorf("L %d with limit %d, burst %d, charged %+v: %d, not %d", r.l, r.limit, r.burst, g, got, r.want)
			}
		}
	}
}

// P11.1: numbers of what was done elsewhere that are outside count as the nearest.
func TestElsewhere(t *testing.T) {
	p, c := api.Policy{Reserve: 500, Weight: 2, Limit: 1000, Burst: 2}, api.Clocks{R: 1, P: 2, L: 3}
	const most = 1 << 20
	for _, r := range []struct{ in, near int }{
		{-1, 0}, {-most, 0}, {-1 << 32, 0}, {math.MinInt, 0},
		{most + 1, most}, {2 * most, most}, {1 << 32, most}, {top, most}, {math.MaxInt, most},
	} {
		for _, phase := range []int{api.ByReserve, api.ByWeight} {
			for _, other := range []int{0, 1, 7, most} {
				mustCharge(t, p, c, charge{unit, phase, r.in, other}, charge{unit, phase, r.near, other}.of(p, c))
				mustCharge(t, p, c, charge{unit, phase, other, r.in}, charge{unit, phase, other, r.near}.of(p, c))
			}
		}
	}
	mustCharge(t, p, c, charge{10 * unit, api.ByWeight, most, most}, api.Clocks{
		R: 1 + most*2*unit, P: 2 + (most+1)*512*unit, L: (8 + most + 1) * unit,
	})
	mustCharge(t, p, c, charge{10 * unit, api.ByWeight, most - 1, most - 1}, api.Clocks{
		R: 1 + (most-1)*2*unit, P: 2 + most*512*unit, L: (8 + most) * unit,
	})
	mustCharge(t, p, c, charge{10 * unit, api.ByReserve, math.MinInt, math.MinInt}, api.Clocks{
		R: 1 + 2*unit, P: 2 + 512*unit, L: 9 * unit,
	})
}

// P11.1: with a phase that is none, or a policy that isn't right, any clocks stay as they were.
func TestChargesNothing(t *testing.T) {
	for _, e := range edges {
		c := api.Clocks{R: e, P: -e, L: e ^ 5}
		for _, phase := range edges {
			g := charge{e, phase, 3, 2}
			for _, p := range wrongs {
				mustCharge(t, p, c, g, c)
			}
			if phase == api.ByReserve || phase == api.ByWeight {
				continue
			}
			for _, p := range rights {
				mustCharge(t, p, c, g, c)
			}
		}
	}
}

// asTag is a sum as a tag.
func asTag(n *big.Int) *big.Int {
	if n.Sign() < 0 {
		return big.NewInt(0)
	}
	if most := big.NewInt(top); n.Cmp(most) > 0 {
		return most
	}
	return n
}

// grownAsWorded is a tag that has grown by a span so many times, told without bounds first.
func grownAsWorded(n, span *big.Int, times int) *big.Int {
	sum := new(big.Int).Mul(span, big.NewInt(int64(times)))
	return asTag(sum.Add(sum, asTag(n)))
}

// chargedAsWorded tells the words of the chapter one behind the other, of a right policy, in numbers of any size.
func chargedAsWorded(p api.Policy, c api.Clocks, g charge) api.Clocks {
	near := func(n int) int { return max(0, min(n, 1_048_576)) }
	delta, rho := near(g.delta), near(g.rho)
	if g.phase == api.ByReserve {
		rho++
	}
	space, wide := big.NewInt(0), big.NewInt(0)
	if p.Reserve > 0 {
		space.Div(big.NewInt(65_536_000), big.NewInt(int64(p.Reserve)))
	}
	weight := new(big.Int).Div(big.NewInt(67_108_864), big.NewInt(int64(p.Weight)))
	c.R = int(grownAsWorded(big.NewInt(int64(c.R)), space, rho).Int64())
	c.P = int(grownAsWorded(big.NewInt(int64(c.P)), weight, 1+delta).Int64())
	if p.Limit == 0 {
		return c
	}
	wide.Div(big.NewInt(int64(65_536_000+p.Limit-1)), big.NewInt(int64(p.Limit)))
	first := new(big.Int).Mul(wide, big.NewInt(int64(p.Burst)))
	first.Sub(big.NewInt(int64(g.now)), first)
	if first.Sign() < 0 {
		first.SetInt64(0)
	}
	if l := big.NewInt(int64(c.L)); l.Cmp(first) > 0 {
		first = l
	}
	c.L = int(grownAsWorded(first, wide, 1+delta).Int64())
	return c
}

// someTag is a number from 0 to MaxTag, of any size.
func someTag(chance *rand.Rand) int {
	n := chance.Intn(1 << chance.Intn(62))
	if chance.Intn(8) == 0 {
		return top - n
	}
	return n
}

// someNumber is a tag, or an edge.
func someNumber(chance *rand.Rand) int {
	if chance.Intn(3) == 0 {
		return edges[chance.Intn(len(edges))]
	}
	return someTag(chance)
}

// someRate is a rate, small ones as often as great ones.
func someRate(chance *rand.Rand) int {
	return min(chance.Intn(1<<chance.Intn(22)), api.MaxRate)
}

func somePolicy(chance *rand.Rand) api.Policy {
	if chance.Intn(3) == 0 {
		return rights[chance.Intn(len(rights))]
	}
	p := api.Policy{Reserve: someRate(chance), Weight: 1 + chance.Intn(1024), Burst: chance.Intn(1025)}
	if limit := someRate(chance); limit > 0 {
		p.Limit = max(limit, p.Reserve)
	}
	return p
}

func someCharge(chance *rand.Rand, now int) charge {
	g := charge{now: now, phase: api.ByReserve + chance.Intn(2)}
	switch chance.Intn(3) {
	case 0:
		g.delta, g.rho = chance.Intn(5), chance.Intn(5)
	case 1:
		g.delta, g.rho = someNumber(chance), someNumber(chance)
	}
	return g
}

// P11.1, P1, R1, R5, R6: any numbers beside right policies, twice each.
func TestChargeAsWorded(t *testing.T) {
	chance := rand.New(rand.NewSource(11))
	for range 300_000 {
		p := somePolicy(chance)
		c := api.Clocks{R: someNumber(chance), P: someNumber(chance), L: someNumber(chance)}
		g := someCharge(chance, someNumber(chance))
		want := chargedAsWorded(p, c, g)
		mustCharge(t, p, c, g, want)
		mustCharge(t, p, c, g, want)
		if t.Failed() {
			return
		}
	}
}

func mustNotFall(t *testing.T, from, to api.Clocks) {
	t.Helper()
	if to.R < from.R || to.P < from.P || to.L < from.L || max(to.R, to.P, to.L) > top {
		t.Fatalf("clocks went from %v to %v", from, to)
	}
}

// P11.2: clocks never fall, and stay tags: woken and charged in any order, at moments in any order, by policies that are right or not.
func TestNeverFall(t *testing.T) {
	chance := rand.New(rand.NewSource(112))
	for range 2000 {
		c := api.Clocks{R: someTag(chance), P: someTag(chance), L: someTag(chance)}
		for range 50 {
			was := c
			switch chance.Intn(3) {
			case 0:
				c = clocks.Wake(c, someTag(chance), someTag(chance))
			case 1:
				c = someCharge(chance, someNumber(chance)).of(somePolicy(chance), c)
			case 2:
				c = someCharge(chance, someTag(chance)).of(wrongs[chance.Intn(len(wrongs))], c)
			}
			mustNotFall(t, was, c)
		}
	}
}

// pickAll picks operations at now as long as they may be picked by limit, and tells how many that were. It ends behind any burst, in case none is held back.
func pickAll(p api.Policy, c api.Clocks, now int) (api.Clocks, int) {
	n := 0
	for ; n < 2000 && clocks.ByLimit(p, c, now); n++ {
		c = charge{now: now, phase: api.ByReserve + n%2}.of(p, c)
	}
	return c, n
}

// P11.2: who waited long enough has its burst and one at once, then one each Wide: what is promised is reached, and not passed.
func TestLimitIsReached(t *testing.T) {
	for _, r := range []struct{ limit, burst, wide int }{
		{1, 0, 65_536_000}, {1, 1, 65_536_000}, {1, 1024, 65_536_000}, {3, 2, 21_845_334}, {7, 5, 9_362_286},
		{1000, 0, unit}, {1000, 10, unit}, {999, 1, 65_602}, {1 << 20, 0, 63}, {1 << 20, 1024, 63},
	} {
		p, now := limited(r.limit, r.burst), 1<<40
		c, n := pickAll(p, api.Clocks{}, now)
		for steps := range 5 {
			if want := steps + r.burst + 1; n != want {
				t.Errorf("%v: %d in %d Wides, not %d", p, n, steps, want)
			}
			late, more := pickAll(p, c, now+r.wide-1)
			if more != 0 || late != c {
				t.Errorf("%v: %d too early", p, more)
			}
			now += r.wide
			c, more = pickAll(p, c, now)
			n += more
		}
	}
}

// someStep is a span of time, with regard to what a limit is.
func someStep(chance *rand.Rand, wide int) int {
	switch chance.Intn(5) {
	case 0:
		return chance.Intn(3)
	case 1:
		return wide - 1 + chance.Intn(3)
	case 2:
		return wide * chance.Intn(40)
	}
	return chance.Intn(2*wide + 1)
}

// someRun tells at which moments operations of a flow are picked: it asks for one, for some, or for as many as it can, and sleeps between them.
func someRun(chance *rand.Rand, p api.Policy, wide int) []int {
	c, now := api.Clocks{}, chance.Intn(1<<45)
	if chance.Intn(4) == 0 {
		now = chance.Intn(3)
	}
	picks := []int{}
	for range 60 {
		now += someStep(chance, wide)
		if chance.Intn(3) == 0 {
			c = clocks.Wake(c, now, chance.Intn(1<<45))
		}
		for range 1 + chance.Intn(20) {
			if !clocks.ByLimit(p, c, now) {
				break
			}
			g := charge{now: now, phase: api.ByReserve + chance.Intn(2)}
			if chance.Intn(10) == 0 {
				g.delta, g.rho = chance.Intn(4), chance.Intn(4)
			}
			c, picks = g.of(p, c), append(picks, now)
		}
	}
	return picks
}

// P11.2: of each run, and each span of it.
func TestLimit(t *testing.T) {
	chance := rand.New(rand.NewSource(1102))
	for range 400 {
		p := somePolicy(chance)
		p.Limit, p.Burst = max(p.Limit, p.Reserve, 1), chance.Intn(1<<chance.Intn(8))
		wide := (65_536_000 + p.Limit - 1) / p.Limit
		picks := someRun(chance, p, wide)
		for a, from := range picks {
			for b, to := range picks[a:] {
				if n := b + 1; n > (to-from)/wide+p.Burst+1 {
					t.Fatalf("%v: %d are picked from %d to %d", p, n, from, to)
				}
			}
		}
	}
}
