package policy_test

import (
	"math"
	"math/rand"
	"slices"
	"testing"

	"dotterel/api"
	"dotterel/policy"
)

// edges are the numbers at which an answer may turn, some between them, and some that look like those when they are cut to fewer bits.
var edges = []int{
	math.MinInt, math.MinInt + 1, -1<<32 + 1, -1 << 32, -api.MaxRate, -1024, -2, -1,
	0, 1, 2, 3, 500, 1000, 1023, 1024, 1025,
	api.MaxRate - 1, api.MaxRate, api.MaxRate + 1,
	1 << 31, 1 << 32, 1<<32 + 1, 1<<32 + 1000, api.MaxTag, math.MaxInt - 1, math.MaxInt,
}

// plain is a policy that has a reservation alone.
func plain(reserve int) api.Policy { return api.Policy{Reserve: reserve, Weight: 1} }

// plains are policies that have reservations alone.
func plains(reserves ...int) []api.Policy {
	l := []api.Policy{}
	for _, r := range reserves {
		l = append(l, plain(r))
	}
	return l
}

// many is one policy, so many times.
func many(p api.Policy, times int) []api.Policy {
	return slices.Repeat([]api.Policy{p}, times)
}

// rightAsWorded tells the words of the chapter one behind the other.
func rightAsWorded(p api.Policy) bool {
	isRate := func(n int) bool { return 0 <= n && n <= 1_048_576 }
	if !isRate(p.Reserve) || !isRate(p.Limit) {
		return false
	}
	if p.Limit != 0 && p.Limit < p.Reserve {
		return false
	}
	return 1 <= p.Weight && p.Weight <= 1024 && 0 <= p.Burst && p.Burst <= 1024
}

// loadAsWorded sums up what one and the other chapter tell of each reservation.
func loadAsWorded(l []api.Policy) int {
	sum := 0
	for _, p := range l {
		if p.Reserve < 1 || p.Reserve > 1_048_576 {
			continue
		}
		space := 65_536_000 / p.Reserve
		sum += (1<<40 + space - 1) / space
	}
	return sum
}

func admitsAsWorded(picks int, l []api.Policy) bool {
	if picks < 1 || picks > 64 || len(l) > 4096 {
		return false
	}
	for _, p := range l {
		if !rightAsWorded(p) {
			return false
		}
	}
	return loadAsWorded(l) <= picks*16_777_216
}

func mustAdmit(t *testing.T, picks int, l []api.Policy, want bool) {
	t.Helper()
	if got := policy.Admits(picks, l); got != want {
		t.Errorf("%d picks, %d policies of load %d (%v ...): %v", picks, len(l), policy.Load(l), l[:min(len(l), 4)], got)
	}
}

// P10.1: each part at its bounds, and at the numbers next to them.
func TestRight(t *testing.T) {
	for _, r := range []struct {
		p    api.Policy
		want bool
	}{
		{api.Policy{Weight: 1}, true},
		{api.Policy{}, false},
		{api.Policy{Reserve: 10, Weight: 20, Limit: 30, Burst: 40}, true},
		{api.Policy{Reserve: 1 << 20, Weight: 1024, Limit: 1 << 20, Burst: 1024}, true},
		{api.Policy{Reserve: 1 << 20, Weight: 1}, true},
		{api.Policy{Reserve: 1<<20 + 1, Weight: 1}, false},
		{api.Policy{Reserve: -1, Weight: 1}, false},
		{api.Policy{Weight: 0, Limit: 5}, false},
		{api.Policy{Weight: -1}, false},
		{api.Policy{Weight: 1024}, true},
		{api.Policy{Weight: 1025}, false},
		{api.Policy{Weight: 1, Limit: 1}, true},
		{api.Policy{Weight: 1, Limit: 1 << 20}, true},
		{api.Policy{Weight: 1, Limit: 1<<20 + 1}, false},
		{api.Policy{Weight: 1, Limit: -1}, false},
		{api.Policy{Weight: 1, Burst: 1024}, true},
		{api.Policy{Weight: 1, Burst: 1025}, false},
		{api.Policy{Weight: 1, Burst: -1}, false},
		// A limit that isn't 0 is no less than the reservation.
		{api.Policy{Reserve: 7, Weight: 1, Limit: 6}, false},
		{api.Policy{Reserve: 7, Weight: 1, Limit: 7}, true},
		{api.Policy{Reserve: 7, Weight: 1, Limit: 8}, true},
		{api.Policy{Reserve: 7, Weight: 1, Limit: 0}, true},
		{api.Policy{Reserve: 2, Weight: 1, Limit: 1}, false},
		{api.Policy{Reserve: 1 << 20, Weight: 1, Limit: 1<<20 - 1}, false},
		{api.Policy{Reserve: -5, Weight: 1, Limit: -4}, false},
		{api.Policy{Reserve: 1<<20 + 1, Weight: 1, Limit: 1<<20 + 2}, false},
	} {
		if got := policy.Right(r.p); got != r.want {
			t.Errorf("%v is right: %v", r.p, got)
		}
	}
}

// P10.1, P1, R1: policies of any numbers, of which any parts may be wrong at once.
func TestRightAsWorded(t *testing.T) {
	for _, reserve := range edges {
		for _, weight := range edges {
			for _, limit := range edges {
				for _, burst := range edges {
					p := api.Policy{Reserve: reserve, Weight: weight, Limit: limit, Burst: burst}
					if got := policy.Right(p); got != rightAsWorded(p) {
						t.Fatalf("%v is right: %v", p, got)
					}
				}
			}
		}
	}
}

// P10.1: known loads: each share is rounded up by itself, behind a space that is rounded down.
func TestLoad(t *testing.T) {
	for _, r := range []struct {
		l    []api.Policy
		want int
	}{
		{nil, 0},
		{[]api.Policy{}, 0},
		{plains(0), 0},
		{plains(1), 16_778},
		{plains(2), 33_555},
		{plains(3), 50_332},
		{plains(7), 117_441},
		{plains(500), 1 << 23},
		{plains(999), 16_760_593},
		{plains(1000), 1 << 24},
		{plains(1001), 16_794_130},
		{plains(63_999), 1 << 30},
		{plains(64_000), 1 << 30},
		{plains(64_001), 1_074_791_426},
		{plains(1 << 20), 17_734_058_513},
		{plains(1, 1, 1), 50_334},
		{plains(1, 2, 3, 0, 7), 16_778 + 33_555 + 50_332 + 117_441},
		{plains(500, 500), 1 << 24},
		{plains(200, 800), 1<<24 + 1},
		{many(plain(1000), 64), 1 << 30},
		{many(plain(1), 1000), 1<<24 + 784},
		{many(plain(1<<20), 4096), 4096 * 17_734_058_513},
		{many(plain(1<<20), 100_000), 100_000 * 17_734_058_513},
	} {
		if got := policy.Load(r.l); got != r.want {
			t.Errorf("load of %d policies (%v ...) is %d, not %d", len(r.l), r.l[:min(len(r.l), 4)], got, r.want)
		}
	}
}

// P10.1: the load of one policy, at each rate.
func TestLoadOfEachRate(t *testing.T) {
	l := plains(0)
	for rate := range api.MaxRate + 2 {
		l[0].Reserve = rate
		if got, want := policy.Load(l), loadAsWorded(l); got != want {
			t.Fatalf("load of reservation %d is %d, not %d", rate, got, want)
		}
	}
}

// P10.1, R1: a load is told of wrong policies too, by their reservations alone; one that is no rate has no Space, and so no share.
func TestLoadOfAnyPolicies(t *testing.T) {
	for _, e := range edges {
		want := loadAsWorded(plains(e))
		for _, other := range edges {
			l := []api.Policy{{Reserve: e, Weight: other, Limit: other, Burst: other}}
			if got := policy.Load(l); got != want {
				t.Errorf("load of %v is %d, not %d", l, got, want)
			}
		}
		if got := policy.Load(plains(500, e, 500)); got != want+1<<24 {
			t.Errorf("load of 500, %d, 500 is %d, not %d", e, got, want+1<<24)
		}
	}
}

// P10.1: the document's example.
func TestExample(t *testing.T) {
	one := api.Policy{Reserve: 1000, Weight: 1}
	if got := policy.Load([]api.Policy{one}); got != 1<<24 {
		t.Errorf("load is %d", got)
	}
	mustAdmit(t, 1, []api.Policy{one}, true)
	mustAdmit(t, 1, []api.Policy{one, one}, false)
	mustAdmit(t, 2, []api.Policy{one, one}, true)
}

// P10.1: a capacity is from 1 to 64; each other number admits nothing, not even no policies.
func TestCapacities(t *testing.T) {
	for _, picks := range append([]int{4, 8, 62, 63, 64, 65, 66, 128, 4096}, edges...) {
		want := picks >= 1 && picks <= 64
		mustAdmit(t, picks, nil, want)
		mustAdmit(t, picks, []api.Policy{}, want)
		mustAdmit(t, picks, plains(0), want)
		mustAdmit(t, picks, plains(1000), want)
	}
}

// P10.1: each capacity admits a load up to its own, and none that is more by 1.
func TestAdmitsUpToItsLoad(t *testing.T) {
	for picks := 1; picks <= 64; picks++ {
		full := many(plain(1000), picks)
		mustAdmit(t, picks, full, true)
		mustAdmit(t, picks, plains(1000*picks), loadAsWorded(plains(1000*picks)) <= picks<<24)
		mustAdmit(t, picks, append(plains(0), full...), true)
		mustAdmit(t, picks, append(plains(500, 500), full[1:]...), true)
		// The rates of these are 1,000 in all; their load is 2^24 and 1.
		mustAdmit(t, picks, append(plains(200, 800), full[1:]...), false)
		mustAdmit(t, picks, append(full, plain(1)), false)
		mustAdmit(t, picks, append(plains(1), full...), false)
	}
	mustAdmit(t, 64, plains(64_000), true)
	mustAdmit(t, 64, plains(64_001), false)
	mustAdmit(t, 1, plains(1001), false)
	mustAdmit(t, 64, plains(1<<20), false)
}

// P10.1: at most 4,096 policies, however little their load is; so many have one that is too great, too.
func TestAdmitsSoMany(t *testing.T) {
	for _, picks := range []int{1, 2, 64} {
		for _, n := range []int{4095, 4096, 4097, 8192, 1 << 16} {
			mustAdmit(t, picks, many(plain(0), n), n <= 4096)
		}
	}
	mustAdmit(t, 64, many(plain(15), 4096), true)
	mustAdmit(t, 64, many(plain(15), 4097), false)
	mustAdmit(t, 64, many(plain(16), 4096), false)
	mustAdmit(t, 64, many(plain(1<<20), 4096), false)
}

// P10.1: no capacity admits policies of which one isn't right, wherever that one stands, and however little its load is.
func TestAdmitsRightOnesAlone(t *testing.T) {
	for _, wrong := range []api.Policy{
		{}, {Reserve: 1}, {Weight: 1025}, {Weight: -1}, {Reserve: -1, Weight: 1}, {Reserve: 1<<20 + 1, Weight: 1},
		{Reserve: math.MinInt, Weight: 1}, {Reserve: math.MaxInt, Weight: 1}, {Weight: 1, Limit: -1},
		{Weight: 1, Limit: 1<<20 + 1}, {Reserve: 5, Weight: 1, Limit: 4}, {Weight: 1, Burst: -1}, {Weight: 1, Burst: 1025},
	} {
		for picks := range 67 {
			mustAdmit(t, picks, []api.Policy{wrong}, false)
		}
		for place := range 5 {
			l := slices.Insert(plains(1, 2, 3, 4), place, wrong)
			mustAdmit(t, 64, l, false)
		}
		mustAdmit(t, 64, append(many(plain(0), 4095), wrong), false)
	}
}

// someReservations are many small ones, some great ones, and now and then a wrong one.
func someReservations(chance *rand.Rand, n int) []api.Policy {
	l := []api.Policy{}
	for range n {
		p := api.Policy{Reserve: chance.Intn(3000), Weight: 1 + chance.Intn(1024), Burst: chance.Intn(1025)}
		switch chance.Intn(40) {
		case 0:
			p.Reserve = chance.Intn(100_000)
		case 1:
			p.Limit = p.Reserve
		case 2:
			p.Limit = p.Reserve + chance.Intn(1000)
		case 3:
			p.Limit = max(1, p.Reserve-1)
		}
		l = append(l, p)
	}
	return l
}

// P10.1 and P10.2: rows of lists and capacities are answered as worded; the least capacity that admits a list is the first of those that do.
func TestAsWorded(t *testing.T) {
	chance := rand.New(rand.NewSource(10))
	for range 3000 {
		l := someReservations(chance, chance.Intn(60))
		if got, want := policy.Load(l), loadAsWorded(l); got != want {
			t.Fatalf("load of %v is %d, not %d", l, got, want)
		}
		admitted := false
		for picks := -1; picks <= 66; picks++ {
			got := policy.Admits(picks, l)
			if got != admitsAsWorded(picks, l) {
				t.Fatalf("%d picks admit %v: %v", picks, l, got)
			}
			if admitted && !got && picks <= 64 {
				t.Fatalf("%d picks admit %v, and %d don't", picks-1, l, picks)
			}
			admitted = got
		}
	}
}

// P10.2: whatever is left of policies that are admitted is admitted, by the same capacity and by each greater one.
func TestAdmitsEachPart(t *testing.T) {
	for _, l := range [][]api.Policy{
		plains(1000, 1000, 1000, 1000),
		plains(500, 0, 1500, 3, 7, 1900, 0, 1),
		plains(2000, 1, 999, 0, 990, 3),
		{{Reserve: 1000, Weight: 3, Limit: 1000, Burst: 9}, {Weight: 1024}, {Reserve: 2, Weight: 1, Limit: 1 << 20}, {Reserve: 2900, Weight: 5}},
	} {
		mustAdmit(t, 4, l, true)
		for which := range 1 << len(l) {
			part := []api.Policy{}
			for i, p := range l {
				if which>>i&1 == 1 {
					part = append(part, p)
				}
			}
			for picks := 4; picks <= 64; picks++ {
				mustAdmit(t, picks, part, true)
			}
		}
	}
}

// P10.1: the numbers of any policy, in their order.
func TestNums(t *testing.T) {
	for _, a := range edges {
		for _, b := range edges {
			p := api.Policy{Reserve: a, Weight: b, Limit: -a, Burst: -b}
			if got := policy.Nums(p); !slices.Equal(got, []int{a, b, -a, -b}) {
				t.Fatalf("numbers of %v are %v", p, got)
			}
		}
	}
	if got := policy.Nums(api.Policy{Reserve: 1, Weight: 2, Limit: 3, Burst: 4}); !slices.Equal(got, []int{1, 2, 3, 4}) {
		t.Fatalf("numbers are %v", got)
	}
}

func mustBeFrom(t *testing.T, n []int, want api.Policy, is bool) {
	t.Helper()
	if got, ok := policy.From(n); got != want || ok != is {
		t.Errorf("from %v is %v, %v; not %v, %v", n, got, ok, want, is)
	}
}

// P10.1, R3: a right policy from its numbers; from others the zero policy, and false.
func TestFrom(t *testing.T) {
	mustBeFrom(t, []int{1, 2, 3, 4}, api.Policy{Reserve: 1, Weight: 2, Limit: 3, Burst: 4}, true)
	mustBeFrom(t, []int{0, 1, 0, 0}, api.Policy{Weight: 1}, true)
	mustBeFrom(t, []int{1 << 20, 1024, 1 << 20, 1024}, api.Policy{Reserve: 1 << 20, Weight: 1024, Limit: 1 << 20, Burst: 1024}, true)
	for _, n := range [][]int{
		nil, {}, {1}, {1, 2}, {1, 2, 3}, {1, 2, 3, 4, 5}, {1, 2, 3, 4, 0}, {0, 1, 2, 3, 4}, {1, 2, 3, 4, 1, 2, 3, 4},
		{0, 0, 0, 0}, {0, 1025, 0, 0}, {-1, 1, 0, 0}, {1<<20 + 1, 1, 0, 0}, {2, 1, 1, 0}, {0, 1, -1, 0},
		{0, 1, 1<<20 + 1, 0}, {0, 1, 0, -1}, {0, 1, 0, 1025}, {1<<32 + 1, 1, 0, 0}, {0, 1<<32 + 1, 0, 0},
	} {
		mustBeFrom(t, n, api.Policy{}, false)
	}
}

// P10.1: From undoes Nums of each right policy, and of no other one.
func TestFromNums(t *testing.T) {
	for _, reserve := range edges {
		for _, weight := range edges {
			for _, limit := range edges {
				for _, burst := range []int{-1, 0, 7, 1024, 1025} {
					p := api.Policy{Reserve: reserve, Weight: weight, Limit: limit, Burst: burst}
					is, want := rightAsWorded(p), api.Policy{}
					if is {
						want = p
					}
					mustBeFrom(t, policy.Nums(p), want, is)
				}
			}
		}
	}
}

// P10.1: lists of many numbers, right ones ahead, are no policy.
func TestFromLongLists(t *testing.T) {
	for n := range 600 {
		l := make([]int, n)
		for i := range l {
			l[i] = 1
		}
		if _, ok := policy.From(l); ok != (n == 4) {
			t.Fatalf("from %d numbers: %v", n, ok)
		}
	}
}

// R4: what is handed in stays as it is, and what lies behind a list's end isn't looked at.
func TestHandedIn(t *testing.T) {
	nums := []int{1, 2, 3, 4, 5}
	mustBeFrom(t, nums[:3], api.Policy{}, false)
	mustBeFrom(t, nums[:4], api.Policy{Reserve: 1, Weight: 2, Limit: 3, Burst: 4}, true)
	if !slices.Equal(nums, []int{1, 2, 3, 4, 5}) {
		t.Fatalf("the numbers are now %v", nums)
	}
	l := append(plains(600, 300), api.Policy{Reserve: 5000})
	mustAdmit(t, 1, l[:2], true)
	mustAdmit(t, 1, l, false)
	if got, want := policy.Load(l[:1]), loadAsWorded(plains(600)); got != want {
		t.Fatalf("load is %d, not %d", got, want)
	}
	if !slices.Equal(l, append(plains(600, 300), api.Policy{Reserve: 5000})) {
		t.Fatalf("the policies are now %v", l)
	}
}

// R4, R6: the numbers that are answered may be written over, and on behind their end; the next answer is the same.
func TestAnswersAreApart(t *testing.T) {
	p := api.Policy{Reserve: 1, Weight: 2, Limit: 3, Burst: 4}
	first, second := policy.Nums(p), policy.Nums(p)
	clear(first)
	_ = append(first, 9)
	for _, n := range [][]int{second, policy.Nums(p)} {
		if !slices.Equal(n, []int{1, 2, 3, 4}) {
			t.Fatalf("numbers are %v", n)
		}
	}
	q, ok := policy.From(second)
	clear(second)
	if q != p || !ok {
		t.Fatalf("the policy is %v, %v", q, ok)
	}
}
