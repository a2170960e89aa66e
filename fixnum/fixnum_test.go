package fixnum_test

import (
	"math"
	"math/bits"
	"testing"

	"dotterel/api"
	"dotterel/fixnum"
)

// edges are the numbers at which an answer may turn, and some between them.
var edges = []int{
	math.MinInt, math.MinInt + 1, -api.MaxTag - 1, -api.MaxTag, -1 << 32, -api.Unit, -3, -2, -1,
	0, 1, 2, 3, 7, 62, 63, 999, api.Second, api.Second + 1, api.Unit - 1, api.Unit, api.Unit + 1,
	api.MaxRate - 1, api.MaxRate, api.MaxRate + 1, 65_535_999, 65_536_000, 65_536_001,
	1<<30 - 1, 1 << 30, 1<<31 - 1, 1 << 31, 1<<32 - 1, 1 << 32, 1<<32 + 1, 1_518_500_249, 1_518_500_250,
	1<<40 - 1, 1 << 40, 1<<40 + 1, 1<<45 - 1, 1 << 45, 1<<45 + 1, 1<<48 + 1,
	api.MaxTag / 3, api.MaxTag/3 + 1, api.MaxTag/2 - 1, api.MaxTag / 2, api.MaxTag/2 + 1,
	api.MaxTag - 1, api.MaxTag, api.MaxTag + 1, 1<<62 - 1, 1 << 62, 1<<62 + 1, math.MaxInt - 1, math.MaxInt,
}

type one struct{ in, want int }

type two struct{ a, b, want int }

func checkOne(t *testing.T, name string, call func(int) int, rows []one) {
	t.Helper()
	for _, r := range rows {
		if got := call(r.in); got != r.want {
			t.Errorf("%s(%d) is %d, not %d", name, r.in, got, r.want)
		}
	}
}

func checkTwo(t *testing.T, name string, call func(int, int) int, rows []two) {
	t.Helper()
	for _, r := range rows {
		if got := call(r.a, r.b); got != r.want {
			t.Errorf("%s(%d, %d) is %d, not %d", name, r.a, r.b, got, r.want)
		}
		if got := call(r.b, r.a); got != r.want {
			t.Errorf("%s(%d, %d) is %d, not %d", name, r.b, r.a, got, r.want)
		}
	}
}

// near is a number as a tag, told apart from how the package does it.
func near(n int) uint64 {
	switch {
	case n < 0:
		return 0
	case n > api.MaxTag:
		return api.MaxTag
	}
	return uint64(n)
}

// top is a number of 128 bits as a tag.
func top(high, low uint64) int {
	if high > 0 || low > api.MaxTag {
		return api.MaxTag
	}
	return int(low)
}

// P1.1
func TestAt(t *testing.T) {
	checkOne(t, "At", fixnum.At, []one{
		{0, 0}, {1, 65_536}, {2, 131_072}, {1000, 65_536_000},
		{1<<45 - 1, api.MaxTag - api.Unit}, {1 << 45, api.MaxTag}, {1<<45 + 1, api.MaxTag},
		{1 << 47, api.MaxTag}, {1 << 48, api.MaxTag}, {1<<48 + 1, api.MaxTag},
		{api.MaxTag, api.MaxTag}, {api.MaxTag + 1, api.MaxTag}, {math.MaxInt, api.MaxTag},
		{-1, 0}, {-1 << 48, 0}, {math.MinInt, 0},
	})
	for _, e := range edges {
		if got, want := fixnum.At(e), top(bits.Mul64(near(e), api.Unit)); got != want {
			t.Errorf("At(%d) is %d, not %d", e, got, want)
		}
	}
}

// P1.1
func TestAdd(t *testing.T) {
	checkTwo(t, "Add", fixnum.Add, []two{
		{0, 0, 0}, {2, 3, 5}, {0, 7, 7}, {api.Unit, 1, 65_537},
		{api.MaxTag - 1, 0, api.MaxTag - 1}, {api.MaxTag - 1, 1, api.MaxTag}, {api.MaxTag - 1, 2, api.MaxTag},
		{api.MaxTag, 0, api.MaxTag}, {api.MaxTag, api.MaxTag, api.MaxTag}, {api.MaxTag + 1, 0, api.MaxTag},
		{1 << 60, 1 << 60, api.MaxTag}, {1 << 60, 1<<60 - 1, api.MaxTag - 1}, {1 << 60, 1<<60 + 1, api.MaxTag},
		{1 << 62, 1 << 62, api.MaxTag}, {math.MaxInt, 1, api.MaxTag}, {math.MaxInt, math.MaxInt, api.MaxTag},
		{-2, 3, 3}, {-2, -3, 0}, {-1, api.MaxTag + 1, api.MaxTag},
		{math.MinInt, math.MinInt, 0}, {math.MinInt, 5, 5}, {math.MinInt, math.MaxInt, api.MaxTag},
	})
	for _, a := range edges {
		for _, b := range edges {
			low, high := bits.Add64(near(a), near(b), 0)
			if got, want := fixnum.Add(a, b), top(high, low); got != want {
				t.Errorf("Add(%d, %d) is %d, not %d", a, b, got, want)
			}
		}
	}
}

// P1.1
func TestTimes(t *testing.T) {
	checkTwo(t, "Times", fixnum.Times, []two{
		{0, 0, 0}, {3, 4, 12}, {5, 0, 0}, {1, 9, 9}, {api.MaxTag, 0, 0}, {math.MaxInt, 0, 0},
		{api.MaxTag, 1, api.MaxTag}, {api.MaxTag - 1, 1, api.MaxTag - 1}, {api.MaxTag + 1, 1, api.MaxTag},
		{api.MaxTag / 2, 2, api.MaxTag}, {api.MaxTag/2 - 1, 2, api.MaxTag - 2}, {api.MaxTag/2 + 1, 2, api.MaxTag},
		{api.MaxTag / 3, 3, api.MaxTag - 2}, {api.MaxTag/3 + 1, 3, api.MaxTag},
		{1 << 30, 1 << 31, api.MaxTag}, {1<<31 - 1, 1 << 30, api.MaxTag - 1<<30},
		// Products whose lowest 64 bits alone would be a small number.
		{1 << 32, 1 << 32, api.MaxTag}, {1 << 40, 1 << 40, api.MaxTag}, {1<<32 + 1, 1<<32 - 1, api.MaxTag},
		{api.MaxTag, api.MaxTag, api.MaxTag}, {math.MaxInt, math.MaxInt, api.MaxTag}, {1 << 62, 4, api.MaxTag},
		{-1, 9, 0}, {-3, -4, 0}, {math.MinInt, -1, 0}, {math.MinInt, math.MinInt, 0}, {math.MinInt, math.MaxInt, 0},
	})
	for _, a := range edges {
		for _, n := range edges {
			if got, want := fixnum.Times(a, n), top(bits.Mul64(near(a), near(n))); got != want {
				t.Errorf("Times(%d, %d) is %d, not %d", a, n, got, want)
			}
		}
	}
}

// P1.2
func TestSpace(t *testing.T) {
	checkOne(t, "Space", fixnum.Space, []one{
		{1, 65_536_000}, {2, 32_768_000}, {3, 21_845_333}, {7, 9_362_285}, {1000, 65_536}, {1001, 65_470},
		{65_536, 1000}, {api.MaxRate - 1, 62}, {api.MaxRate, 62},
		{0, 0}, {-1, 0}, {-1000, 0}, {math.MinInt, 0},
		{api.MaxRate + 1, 0}, {65_536_000, 0}, {api.MaxTag, 0}, {math.MaxInt, 0},
	})
}

// P1.2
func TestWide(t *testing.T) {
	checkOne(t, "Wide", fixnum.Wide, []one{
		{1, 65_536_000}, {2, 32_768_000}, {3, 21_845_334}, {7, 9_362_286}, {1000, 65_536}, {1001, 65_471},
		{65_536, 1000}, {api.MaxRate - 1, 63}, {api.MaxRate, 63},
		{0, 0}, {-1, 0}, {-1000, 0}, {math.MinInt, 0},
		{api.MaxRate + 1, 0}, {65_536_000, 0}, {api.MaxTag, 0}, {math.MaxInt, 0},
	})
}

// P1.2
func TestSpaceAndWideOfEachRate(t *testing.T) {
	const all = api.Second * api.Unit
	for rate := 1; rate <= api.MaxRate; rate++ {
		space, wide := fixnum.Space(rate), fixnum.Wide(rate)
		if space*rate > all || (space+1)*rate <= all {
			t.Fatalf("Space(%d) is %d", rate, space)
		}
		if wide*rate < all || (wide-1)*rate >= all {
			t.Fatalf("Wide(%d) is %d", rate, wide)
		}
	}
}

// P1.2
func TestShare(t *testing.T) {
	checkOne(t, "Share", fixnum.Share, []one{
		{1, 1 << 40}, {2, 1 << 39}, {3, 366_503_875_926}, {62, 17_734_058_513}, {1000, 1_099_511_628},
		{65_535, 16_777_473}, {65_536, 1 << 24}, {65_537, 16_776_961}, {65_536_000, 16_778},
		{1<<39 - 1, 3}, {1 << 39, 2}, {1<<40 - 1, 2}, {1 << 40, 1}, {1<<40 + 1, 1}, {1 << 41, 1},
		{api.MaxTag, 1}, {api.MaxTag + 1, 1}, {math.MaxInt - 1, 1}, {math.MaxInt, 1},
		{0, 0}, {-1, 0}, {-1 << 40, 0}, {math.MinInt, 0},
	})
	for _, e := range edges {
		if e < 1 || e > 1<<41 {
			continue
		}
		if got := fixnum.Share(e); got*e < 1<<40 || (got-1)*e >= 1<<40 {
			t.Errorf("Share(%d) is %d", e, got)
		}
	}
}

// apart counts the operations that come from a tag on, one behind the other by step, at tags from from to to.
func apart(first, step, from, to int) int {
	count := 0
	for at := first; at <= to; at = fixnum.Add(at, step) {
		if at >= from {
			count++
		}
	}
	return count
}

var someRates = []int{1, 2, 3, 7, 60, 999, 1000, 1001, 4096, 65_535, 65_536, 99_991, 1<<20 - 1, 1 << 20}

// P1.3
func TestRoomInSpans(t *testing.T) {
	for _, rate := range someRates {
		space, wide := fixnum.Space(rate), fixnum.Wide(rate)
		if space < 1 || wide < space {
			t.Fatalf("rate %d: Space is %d, Wide is %d", rate, space, wide)
		}
		for _, n := range []int{1, 2, 3, 10, 97} {
			for _, from := range []int{0, 1, space / 2, space - 1, space, wide, wide + 1, 5 * wide} {
				if got := apart(0, space, from, fixnum.Add(from, fixnum.Times(space, n))); got < n {
					t.Errorf("rate %d: %d operations in %d Spaces from %d on", rate, got, n, from)
				}
				if got := apart(0, wide, from, fixnum.Add(from, fixnum.Times(wide, n))); got > n+1 {
					t.Errorf("rate %d: %d operations in %d Wides from %d on", rate, got, n, from)
				}
			}
		}
	}
}

// P1.3: n Spaces are no longer than what n operations of the rate have, and n Wides no shorter.
func TestRoomIsThatOfTheRate(t *testing.T) {
	for _, rate := range someRates {
		for _, n := range []int{1, 2, 3, 1000, 1 << 20} {
			exact := fixnum.Times(fixnum.At(api.Second), n)
			if spaces := fixnum.Times(fixnum.Times(fixnum.Space(rate), n), rate); spaces > exact {
				t.Errorf("rate %d: %d Spaces are too long", rate, n)
			}
			if wides := fixnum.Times(fixnum.Times(fixnum.Wide(rate), n), rate); wides < exact {
				t.Errorf("rate %d: %d Wides are too short", rate, n)
			}
		}
		if got := fixnum.At(api.Second) / fixnum.Space(rate); got < rate {
			t.Errorf("rate %d: %d Spaces in 1,000 ticks", rate, got)
		}
		if got := fixnum.At(api.Second) / fixnum.Wide(rate); got > rate {
			t.Errorf("rate %d: %d Wides in 1,000 ticks", rate, got)
		}
	}
}

// P1, R1, R6: each call takes any number, answers a tag, or a share, and the same one each time.
func TestAnyNumber(t *testing.T) {
	within := func(name string, most int, call func() int) {
		t.Helper()
		got := call()
		if got < 0 || got > most || call() != got {
			t.Errorf("%s answers %d", name, got)
		}
	}
	for _, a := range edges {
		within("At", api.MaxTag, func() int { return fixnum.At(a) })
		within("Space", fixnum.At(api.Second), func() int { return fixnum.Space(a) })
		within("Wide", fixnum.At(api.Second), func() int { return fixnum.Wide(a) })
		within("Share", 1<<40, func() int { return fixnum.Share(a) })
		for _, b := range edges {
			within("Add", api.MaxTag, func() int { return fixnum.Add(a, b) })
			within("Times", api.MaxTag, func() int { return fixnum.Times(a, b) })
		}
	}
}
