package history_test

import (
	"math"
	"math/rand"
	"slices"
	"testing"

	"dotterel/api"
	"dotterel/history"
)

const none = -1

func write(v, begin, end int) api.Call {
	return api.Call{Kind: api.OpWrite, V: v, Begin: begin, End: end}
}

// trim has a value that says nothing.
func trim(begin, end int) api.Call {
	return api.Call{Kind: api.OpTrim, V: 77, Begin: begin, End: end}
}

func read(v, begin, end int) api.Call {
	return api.Call{Kind: api.OpRead, V: v, Begin: begin, End: end}
}

// wordedRight is what the chapter says of a right call.
func wordedRight(c api.Call) bool {
	kind := c.Kind == 1 || c.Kind == 2 || c.Kind == 3
	return kind && c.Begin >= 0 && (c.End == none || c.End >= c.Begin)
}

// wordedAhead is what the chapter says of a call that is ahead of another one.
func wordedAhead(a, b api.Call) bool { return a.End != none && a.End < b.Begin }

// wordedIs goes through the chapter's words on right calls and witnesses, one behind the other.
func wordedIs(l []api.Call, order []int) bool {
	for _, c := range l {
		if !wordedRight(c) {
			return false
		}
	}
	times := make([]int, len(l))
	for _, i := range order {
		if i < 0 || i >= len(l) {
			return false
		}
		times[i]++
	}
	for i, c := range l {
		switch {
		case times[i] > 1, c.End != none && times[i] != 1, c.End == none && c.Kind == api.OpRead && times[i] != 0:
			return false
		}
	}
	for k, i := range order {
		for _, behind := range order[k+1:] {
			if wordedAhead(l[behind], l[i]) {
				return false
			}
		}
		if l[i].Kind == api.OpRead && l[i].V != valueAhead(l, order[:k]) {
			return false
		}
	}
	return true
}

// valueAhead is the value of the last write, or trim, of an order.
func valueAhead(l []api.Call, order []int) int {
	for _, i := range slices.Backward(order) {
		switch l[i].Kind {
		case api.OpWrite:
			return l[i].V
		case api.OpTrim:
			return 0
		}
	}
	return 0
}

// orders are all rows of some of n places, none of them twice.
func orders(n int) [][]int {
	all := [][]int{nil}
	for i := 0; i < len(all); i++ {
		for place := range n {
			if !slices.Contains(all[i], place) {
				all = append(all, append(slices.Clone(all[i]), place))
			}
		}
	}
	return all
}

// anyOrder tells whether one of all orders is a witness, as the chapter words it.
func anyOrder(l []api.Call, all [][]int) bool {
	return slices.ContainsFunc(all, func(order []int) bool { return wordedIs(l, order) })
}

// bySets tells whether right calls have a witness, by which sets of them can be placed, each behind smaller ones, with which write or trim as the last one.
func bySets(l []api.Call) bool {
	n := len(l)
	reached := make([][]bool, 1<<n)
	for s := range reached {
		reached[s] = make([]bool, n+1)
	}
	reached[0][n] = true
	for s := range reached {
		for last := range n + 1 {
			if !reached[s][last] {
				continue
			}
			if allAnswered(l, s) {
				return true
			}
			for i := range n {
				if s>>i&1 == 1 || !mayCome(l, s, last, i) {
					continue
				}
				behind := last
				if l[i].Kind != api.OpRead {
					behind = i
				}
				reached[s|1<<i][behind] = true
			}
		}
	}
	return false
}

func allAnswered(l []api.Call, s int) bool {
	for i, c := range l {
		if c.End != none && s>>i&1 == 0 {
			return false
		}
	}
	return true
}

func mayCome(l []api.Call, s, last, i int) bool {
	for k, c := range l {
		if s>>k&1 == 0 && wordedAhead(c, l[i]) {
			return false
		}
	}
	if l[i].Kind != api.OpRead {
		return true
	}
	value := 0
	if last < len(l) {
		value = valueAhead(l, []int{last})
	}
	return l[i].End != none && l[i].V == value
}

// mustFind calls Witness, which must answer an order that is one by the chapter's words, and by Is.
func mustFind(t *testing.T, l []api.Call) []int {
	t.Helper()
	order, ok := history.Witness(l)
	if !ok {
		t.Fatalf("no witness of %v", l)
	}
	if !wordedIs(l, order) {
		t.Fatalf("%v is no witness of %v", order, l)
	}
	if !history.Is(l, order) {
		t.Fatalf("Is(%v, %v) is false", l, order)
	}
	return order
}

// mustNotFind calls Witness, which must answer false, and nothing beside it.
func mustNotFind(t *testing.T, l []api.Call) {
	t.Helper()
	if order, ok := history.Witness(l); ok || len(order) != 0 {
		t.Fatalf("Witness(%v) is %v, %v", l, order, ok)
	}
}

func mustBe(t *testing.T, l []api.Call, order ...int) {
	t.Helper()
	if !wordedIs(l, order) {
		t.Fatalf("the test is wrong: %v is no witness of %v", order, l)
	}
	if !history.Is(l, order) {
		t.Fatalf("Is(%v, %v) is false", l, order)
	}
}

func mustNotBe(t *testing.T, l []api.Call, order ...int) {
	t.Helper()
	if wordedIs(l, order) {
		t.Fatalf("the test is wrong: %v is a witness of %v", order, l)
	}
	if history.Is(l, order) {
		t.Fatalf("Is(%v, %v) is true", l, order)
	}
}

// The chapter's examples.
func TestExample(t *testing.T) {
	if order := mustFind(t, []api.Call{write(1, 0, 3), read(1, 1, 2)}); !slices.Equal(order, []int{0, 1}) {
		t.Fatal(order)
	}
	if order := mustFind(t, []api.Call{read(1, 1, 2), write(1, 0, 3)}); !slices.Equal(order, []int{1, 0}) {
		t.Fatal(order)
	}
	mustNotFind(t, []api.Call{read(1, 0, 1)})
}

// P23.1: no calls have the witness without any.
func TestNoCalls(t *testing.T) {
	for _, l := range [][]api.Call{nil, {}} {
		if order := mustFind(t, l); len(order) != 0 {
			t.Fatal(order)
		}
		mustBe(t, l)
		mustNotBe(t, l, 0)
		mustNotBe(t, l, -1)
		mustNotBe(t, l, 0, 0)
	}
}

// wrong are calls that aren't right, each by one thing alone, or by more.
func wrong() []api.Call {
	l := []api.Call{{}, {Kind: 1 << 32, Begin: -1, End: -2}}
	for _, kind := range []int{math.MinInt, -1 << 32, -3, -2, -1, 0, api.OpScrub, 5, 6, 257, 1 << 32, 1<<32 + 1, 1<<32 + 3, math.MaxInt} {
		l = append(l, api.Call{Kind: kind, Begin: 1, End: 2}, api.Call{Kind: kind, Begin: 1, End: none}, api.Call{Kind: kind, V: 1})
	}
	for kind := api.OpWrite; kind <= api.OpRead; kind++ {
		for _, begin := range []int{math.MinInt, math.MinInt + 1, -1 << 32, -1<<32 + 1, -2, -1} {
			for _, end := range []int{begin, begin + 1, none, 0, 5, math.MaxInt} {
				l = append(l, api.Call{Kind: kind, Begin: begin, End: end})
			}
		}
		for _, end := range []int{math.MinInt, math.MinInt + 1, -1 << 32, -1<<32 - 1, -257, -3, -2} {
			l = append(l, api.Call{Kind: kind, Begin: 0, End: end}, api.Call{Kind: kind, Begin: 7, End: end})
		}
		l = append(l, api.Call{Kind: kind, Begin: 1, End: 0}, api.Call{Kind: kind, Begin: 7, End: 6}, api.Call{Kind: kind, Begin: math.MaxInt, End: math.MaxInt - 1}, api.Call{Kind: kind, Begin: math.MaxInt, End: 0})
	}
	return l
}

// P23.1: a call that isn't right is enough, wherever it stands, and whether or not the order has it.
func TestWrongCalls(t *testing.T) {
	good := []api.Call{write(1, 0, 1), read(1, 2, 3), trim(4, none)}
	for _, c := range wrong() {
		if wordedRight(c) {
			t.Fatal("the test is wrong", c)
		}
		for at := range len(good) + 1 {
			l := slices.Insert(slices.Clone(good), at, c)
			mustNotFind(t, l)
			for _, order := range orders(len(l)) {
				mustNotBe(t, l, order...)
			}
		}
		mustNotFind(t, []api.Call{c})
		mustNotBe(t, []api.Call{c})
		mustNotBe(t, []api.Call{c}, 0)
	}
}

// P23.1: calls that are right by the least.
func TestRightCalls(t *testing.T) {
	for _, at := range []int{0, 1, 1 << 32, math.MaxInt - 1, math.MaxInt} {
		for _, end := range []int{at, math.MaxInt} {
			for _, c := range []api.Call{write(5, at, end), trim(at, end), read(0, at, end)} {
				mustBe(t, []api.Call{c}, 0)
				mustNotBe(t, []api.Call{c})
				if order := mustFind(t, []api.Call{c}); !slices.Equal(order, []int{0}) {
					t.Fatal(order)
				}
			}
		}
		for _, c := range []api.Call{write(5, at, none), trim(at, none)} {
			mustBe(t, []api.Call{c})
			mustBe(t, []api.Call{c}, 0)
			mustFind(t, []api.Call{c})
		}
		for _, c := range []api.Call{read(0, at, none), read(5, at, none)} {
			mustBe(t, []api.Call{c})
			mustNotBe(t, []api.Call{c}, 0)
			mustFind(t, []api.Call{c})
		}
	}
}

// P23.1: places that are none, twice, or missing.
func TestPlaces(t *testing.T) {
	l := []api.Call{write(1, 0, 1), read(1, 2, 3), write(2, 4, none), trim(0, none), read(1, 0, none)}
	mustBe(t, l, 0, 1)
	mustBe(t, l, 3, 0, 1)
	mustBe(t, l, 0, 1, 2)
	mustBe(t, l, 0, 1, 3)
	mustBe(t, l, 0, 1, 3, 2)
	for _, order := range [][]int{
		{}, {0}, {1}, {0, 0}, {0, 0, 1}, {0, 1, 0}, {0, 1, 1}, {2, 3}, {0, 1, 2, 2}, {0, 1, 2, 3, 2}, {0, 1, 4}, {0, 4, 1}, {4, 0, 1}, {1, 0}, {0, 3, 1}, {2, 0, 1}, {0, 2, 1}, {0, 1, 2, 3, 4},
	} {
		mustNotBe(t, l, order...)
	}
	for _, place := range []int{math.MinInt, math.MinInt + 1, -1 << 32, -1<<32 + 2, -64, -5, -2, -1, 5, 6, 64, 66, 256, 1 << 31, 1 << 32, 1<<32 + 2, 1<<32 + 3, 1 << 62, math.MaxInt - 1, math.MaxInt} {
		mustNotBe(t, l, place)
		mustNotBe(t, l, 0, 1, place)
		mustNotBe(t, l, place, 0, 1)
		mustNotBe(t, l, 0, place, 1)
		mustNotBe(t, l, place, 1)
	}
	mustNotBe(t, l, make([]int, 1000)...)
}

// P23.1: what is ahead of what: by an end below a beginning alone.
func TestAhead(t *testing.T) {
	for _, x := range []struct {
		l           []api.Call
		there, back bool
	}{
		{[]api.Call{write(1, 0, 1), write(2, 2, 3)}, true, false},
		{[]api.Call{write(1, 0, 2), write(2, 2, 3)}, true, true},
		{[]api.Call{write(1, 0, 9), write(2, 2, 3)}, true, true},
		{[]api.Call{write(1, 2, 2), write(2, 2, 2)}, true, true},
		{[]api.Call{write(1, 4, 5), write(2, 2, 3)}, false, true},
		{[]api.Call{write(1, 3, 5), write(2, 2, 3)}, true, true},
		{[]api.Call{write(1, 0, 1), write(2, 2, none)}, true, false},
		{[]api.Call{write(1, 0, 2), trim(2, none)}, true, true},
		{[]api.Call{write(1, 0, none), write(2, 9, 9)}, true, true},
		{[]api.Call{trim(9, none), write(2, 0, none)}, true, true},
		{[]api.Call{read(0, 0, 1), read(0, 2, 3)}, true, false},
		{[]api.Call{trim(0, math.MaxInt-1), trim(math.MaxInt, math.MaxInt)}, true, false},
		{[]api.Call{trim(0, math.MaxInt), trim(math.MaxInt, math.MaxInt)}, true, true},
		{[]api.Call{trim(0, 0), read(0, 1<<32, 1<<32)}, true, false},
	} {
		for order, want := range map[[2]int]bool{{0, 1}: x.there, {1, 0}: x.back} {
			if want {
				mustBe(t, x.l, order[:]...)
			} else {
				mustNotBe(t, x.l, order[:]...)
			}
		}
		mustFind(t, x.l)
	}
}

// P23.1: also a call that others stand between is ahead.
func TestAheadOfFarOnes(t *testing.T) {
	l := []api.Call{write(1, 5, 6), write(2, 0, 9), write(3, 0, 9), write(4, 0, 4)}
	mustNotBe(t, l, 0, 1, 2, 3)
	mustNotBe(t, l, 1, 0, 2, 3)
	mustBe(t, l, 1, 2, 3, 0)
	mustBe(t, l, 3, 1, 2, 0)
	mustBe(t, l, 3, 0, 2, 1)
}

// P23.1: a read has the value of the last write or trim ahead of it, or 0.
func TestValues(t *testing.T) {
	for _, v := range []int{math.MinInt, -1 << 32, -2, -1, 0, 1, 2, 255, 256, 1 << 32, math.MaxInt} {
		mustFind(t, []api.Call{write(v, 0, 1), read(v, 2, 3)})
		mustFind(t, []api.Call{write(v, 0, none), read(v, 2, 3)})
		mustFind(t, []api.Call{write(v, 0, 1), trim(2, 3), read(0, 4, 5)})
		mustFind(t, []api.Call{read(0, 0, 1), write(v, 2, 3), read(v, 4, 5), read(v, 6, 7)})
		mustNotFind(t, []api.Call{write(v, 0, 1), read(v^1, 2, 3)})
		mustNotFind(t, []api.Call{write(v, 0, 1), read(v^1<<32, 2, 3)})
		mustNotFind(t, []api.Call{write(v, 0, 1), write(v^1, 2, 3), read(v, 4, 5)})
		mustNotFind(t, []api.Call{read(v|1, 0, 1), write(v|1, 2, 3)})
		mustNotFind(t, []api.Call{write(v|1, 0, 1), trim(2, 3), read(v|1, 4, 5)})
		mustNotFind(t, []api.Call{{Kind: api.OpTrim, V: v | 1, End: 1}, read(v|1, 2, 3)})
		mustFind(t, []api.Call{{Kind: api.OpTrim, V: v | 1, End: 1}, read(0, 2, 3)})
	}
}

// P23.1: of a call without an answer: some, ahead of none, wherever they help; a read never.
func TestUnanswered(t *testing.T) {
	mustFind(t, []api.Call{write(1, 0, none), read(0, 1, 2), read(1, 9, 10), read(1, 11, 12)})
	mustFind(t, []api.Call{write(1, 0, none), read(0, 1, 2)})
	mustFind(t, []api.Call{write(1, 0, none), read(1, 1, 2)})
	mustNotFind(t, []api.Call{write(1, 0, none), read(1, 1, 2), read(0, 3, 4)})
	mustFind(t, []api.Call{write(1, 0, none), read(1, 1, 2), trim(0, none), read(0, 3, 4)})
	mustNotFind(t, []api.Call{write(1, 0, none), read(1, 1, 2), trim(0, none), read(0, 3, 4), read(1, 5, 6)})
	mustFind(t, []api.Call{write(1, 0, none), read(1, 1, 2), trim(0, none), read(0, 3, 4), write(1, 0, none), read(1, 5, 6)})
	mustNotFind(t, []api.Call{read(1, 0, 2), write(1, 3, none)})
	mustFind(t, []api.Call{read(1, 0, 3), write(1, 3, none)})
	mustFind(t, []api.Call{read(1, 0, none), read(7, 5, none)})
	mustNotFind(t, []api.Call{read(1, 0, none), read(1, 5, 6)})
	// A write that was never done has no place: behind it the read would have another value, and ahead of all it can't come.
	l := []api.Call{write(1, 0, 1), write(2, 2, none), read(1, 3, 4)}
	mustFind(t, l)
	mustBe(t, l, 0, 2)
	mustBe(t, l, 0, 2, 1)
	mustNotBe(t, l, 0, 1, 2)
	mustNotBe(t, l, 1, 0, 2)
}

// smallCalls are all calls with few values and times, of those that an order tells apart.
func smallCalls() []api.Call {
	var l []api.Call
	for begin := range 3 {
		for _, end := range []int{none, 0, 1, 2} {
			if end != none && end < begin {
				continue
			}
			l = append(l, write(0, begin, end), write(1, begin, end), trim(begin, end), read(0, begin, end), read(1, begin, end))
		}
	}
	return l
}

// P23.1, P23.2: all lists of up to three small calls, with all orders of them.
func TestAllSmallLists(t *testing.T) {
	all := smallCalls()
	byLength := [][][]int{orders(0), orders(1), orders(2), orders(3)}
	var try func(l []api.Call)
	try = func(l []api.Call) {
		mustAgree(t, l, byLength[len(l)])
		if len(l) == 3 {
			return
		}
		for _, c := range all {
			try(append(slices.Clip(l), c))
		}
	}
	try(nil)
}

// mustAgree holds Is of each order, and Witness, against the chapter's words.
func mustAgree(t *testing.T, l []api.Call, orders [][]int) {
	t.Helper()
	there := false
	for _, order := range orders {
		want := wordedIs(l, order)
		if got := history.Is(l, order); got != want {
			t.Fatalf("Is(%v, %v) is %v", l, order, got)
		}
		there = there || want
	}
	if there {
		mustFind(t, l)
	} else {
		mustNotFind(t, l)
	}
}

// anyCalls are n right calls with few values and times.
func anyCalls(r *rand.Rand, n, values, times int) []api.Call {
	l := make([]api.Call, n)
	for i := range l {
		begin := r.Intn(times)
		end := begin + r.Intn(times/2+1)
		if r.Intn(4) == 0 {
			end = none
		}
		l[i] = api.Call{Kind: 1 + r.Intn(3), V: r.Intn(values), Begin: begin, End: end}
	}
	return l
}

// P23.1, P23.2: lists of four to six calls, with all orders of them.
func TestAllOrders(t *testing.T) {
	r := rand.New(rand.NewSource(1))
	for n := 4; n <= 6; n++ {
		all := orders(n)
		found := 0
		rounds := 120000 / (n * n * n)
		for range rounds {
			l := anyCalls(r, n, 3, 2+r.Intn(8))
			mustAgree(t, l, all)
			if _, ok := history.Witness(l); ok {
				found++
			}
		}
		if found < rounds/20 || found > rounds*19/20 {
			t.Fatalf("%d of %d lists have a witness: the test is too easy", found, rounds)
		}
	}
}

// blockCalls are n calls as one block does them, one at a time, each somewhere between its beginning and its end.
func blockCalls(r *rand.Rand, n, values, width int) []api.Call {
	l := make([]api.Call, n)
	value := 0
	for i := range l {
		at := width + i*3
		c := api.Call{Kind: 1 + r.Intn(3), Begin: at - r.Intn(width), End: at + r.Intn(width)}
		lost := r.Intn(5) == 0
		switch {
		case lost:
			// It is done, or it never is.
			c.End = none
			c.V = r.Intn(values)
			if r.Intn(2) == 0 {
				value = after(c, value)
			}
		case c.Kind == api.OpRead:
			c.V = value
		default:
			c.V = r.Intn(values)
			value = after(c, value)
		}
		l[i] = c
	}
	r.Shuffle(n, func(i, k int) { l[i], l[k] = l[k], l[i] })
	return l
}

func after(c api.Call, value int) int {
	switch c.Kind {
	case api.OpWrite:
		return c.V
	case api.OpTrim:
		return 0
	}
	return value
}

// P23.2: what one block did has a witness, of as many calls as there may be.
func TestBlocks(t *testing.T) {
	r := rand.New(rand.NewSource(2))
	for range 10000 {
		n := r.Intn(15)
		l := blockCalls(r, n, 2+r.Intn(12), 1+r.Intn(50))
		mustFind(t, l)
	}
}

// P23.2: what one block did, but for a call, or two, that tell something else: has a witness, or none, as the sets of calls tell.
func TestSpoiltBlocks(t *testing.T) {
	r := rand.New(rand.NewSource(3))
	found := 0
	const rounds = 3000
	for range rounds {
		l := blockCalls(r, 4+r.Intn(8), 2+r.Intn(5), 1+r.Intn(30))
		for range 1 + r.Intn(2) {
			i := r.Intn(len(l))
			l[i] = anyCalls(r, 1, 5, 60)[0]
		}
		if bySets(l) {
			found++
			mustFind(t, l)
		} else {
			mustNotFind(t, l)
		}
	}
	if found < rounds/10 || found > rounds*9/10 {
		t.Fatalf("%d of %d lists have a witness: the test is too easy", found, rounds)
	}
}

// The two ways in which these tests tell whether there is a witness must be one.
func TestSets(t *testing.T) {
	r := rand.New(rand.NewSource(4))
	all := orders(5)
	for range 300 {
		l := anyCalls(r, 5, 3, 2+r.Intn(8))
		if bySets(l) != anyOrder(l, all) {
			t.Fatal(l)
		}
	}
}

// P23.2: lists of 12 to 14 calls, with and without a witness.
func TestLongLists(t *testing.T) {
	r := rand.New(rand.NewSource(5))
	for n := 12; n <= 14; n++ {
		for range 12 {
			l := blockCalls(r, n, 4, 40)
			i := r.Intn(n)
			l[i].V, l[i].Kind = r.Intn(5), api.OpRead
			if bySets(l) {
				mustFind(t, l)
			} else {
				mustNotFind(t, l)
			}
		}
	}
}

// P23.2: a witness may be far from what is tried first, however the list is turned.
func TestHidden(t *testing.T) {
	// Seven writes that may come at any time, and reads one behind the other, each of another one's value.
	var l []api.Call
	for v := range 7 {
		l = append(l, write(v+1, 0, none), read(v+1, 100+v, 100+v))
	}
	for turn := range l {
		turned := append(slices.Clone(l[turn:]), l[:turn]...)
		mustFind(t, turned)
		slices.Reverse(turned)
		mustFind(t, turned)
		// The last read of a value that was there, and was written over by what came once.
		last := slices.Index(turned, read(7, 106, 106))
		turned[last].V = 1
		mustNotFind(t, turned)
	}
	again := []api.Call{write(1, 0, none), read(1, 1, 1), write(2, 0, none), read(2, 2, 2), read(1, 3, 3)}
	mustNotFind(t, again)
	mustFind(t, append(again, write(1, 0, none)))
}

// P23.1, P23.2: 14 calls that may come in any order, and a value that none of them writes: all is tried, and it ends.
func TestNoneOfMany(t *testing.T) {
	for _, end := range []int{none, 9} {
		var l []api.Call
		for v := range 13 {
			l = append(l, write(v+1, 0, end))
		}
		mustNotFind(t, append(slices.Clone(l), read(14, 0, 9)))
		mustNotFind(t, append([]api.Call{read(-1, 0, 9)}, l...))
		mustFind(t, append(slices.Clone(l), read(13, 9, 9)))
		mustFind(t, append([]api.Call{read(1, 9, 9)}, l...))
		if end == none {
			mustFind(t, append(slices.Clone(l), read(0, 9, 9)))
		} else {
			mustNotFind(t, append(slices.Clone(l), read(0, 10, 10)))
		}
	}
}

// P23.1: 14 calls, and no more, also where what is too many could stay away, or where the order is plain; Is has no bound.
func TestMany(t *testing.T) {
	for _, call := range []api.Call{write(1, 0, 1), trim(0, 1), read(0, 0, 1), write(1, 0, none), read(3, 0, none)} {
		for n := range 70 {
			l := slices.Repeat([]api.Call{call}, n)
			order := []int{}
			for i := range n {
				order = append(order, i)
			}
			if n <= 14 {
				mustFind(t, l)
			} else {
				mustNotFind(t, l)
			}
			if call.Kind == api.OpRead && call.End == none {
				order = nil
			}
			mustBe(t, l, order...)
		}
	}
	mustNotFind(t, make([]api.Call, 15))
	mustNotFind(t, make([]api.Call, 1<<20))
}

// P23.1: Is of long lists, that one block did, and with one thing changed.
func TestIsOfLongLists(t *testing.T) {
	const n = 1000
	l := make([]api.Call, n)
	order := make([]int, n)
	for i := range l {
		l[i] = api.Call{Kind: 1 + i%3, V: i, Begin: i * 2, End: i*2 + 1}
		order[i] = i
		if l[i].Kind == api.OpRead {
			l[i].V = 0
		}
	}
	mustBe(t, l, order...)
	for _, i := range []int{0, 1, 2, 499, 500, 501, 997, 998} {
		swapped := slices.Clone(order)
		swapped[i], swapped[i+1] = swapped[i+1], swapped[i]
		mustNotBe(t, l, swapped...)
		mustNotBe(t, l, slices.Delete(slices.Clone(order), i, i+1)...)
		mustNotBe(t, l, append(slices.Clone(order), i)...)
		twice := slices.Clone(order)
		twice[i] = twice[i+1]
		mustNotBe(t, l, twice...)
	}
	last := slices.Clone(order)
	copy(last[1:], order)
	last[0] = n - 1
	mustNotBe(t, l, last...)
	l[n-2].Kind = api.OpScrub
	mustNotBe(t, l, order...)
}

// R4: neither the calls nor an order are changed, nor what lies behind their lengths; what is answered is its asker's.
func TestMemory(t *testing.T) {
	room := []api.Call{write(1, 0, 5), read(1, 1, 2), trim(0, none), read(9, 0, 1), {Kind: 99}}
	was := slices.Clone(room)
	order := mustFind(t, room[:3])
	kept := slices.Clone(order)
	places := append(slices.Clone(order), -7, 99)
	if !history.Is(room[:3], places[:len(order)]) {
		t.Fatal(places)
	}
	if !slices.Equal(room, was) || !slices.Equal(places, append(slices.Clone(kept), -7, 99)) {
		t.Fatal(room, places)
	}
	clear(order)
	order = append(order, 5, 5, 5)
	if again := mustFind(t, room[:3]); !slices.Equal(again, kept) {
		t.Fatal(again, order)
	}
}

// R6: the same calls have the same answer, each time, in whatever memory.
func TestOneAnswer(t *testing.T) {
	r := rand.New(rand.NewSource(6))
	for range 100 {
		l := blockCalls(r, 14, 5, 40)
		first := mustFind(t, l)
		for range 5 {
			if again := mustFind(t, slices.Clone(l)); !slices.Equal(again, first) {
				t.Fatal(first, again)
			}
		}
	}
}

// P1: any calls at all, and any orders.
func TestAnything(t *testing.T) {
	r := rand.New(rand.NewSource(7))
	edges := []int{math.MinInt, -1 << 32, -2, -1, -1, 0, 0, 1, 1, 2, 2, 3, 3, 4, 1 << 32, math.MaxInt}
	pick := func() int { return edges[r.Intn(len(edges))] }
	for range 20000 {
		l := make([]api.Call, r.Intn(5))
		for i := range l {
			l[i] = api.Call{Kind: r.Intn(5), V: pick(), Begin: pick(), End: pick()}
		}
		order := make([]int, r.Intn(6))
		for i := range order {
			order[i] = r.Intn(6) - 1
		}
		if got, want := history.Is(l, order), wordedIs(l, order); got != want {
			t.Fatalf("Is(%v, %v) is %v", l, order, got)
		}
		if anyOrder(l, orders(len(l))) {
			mustFind(t, l)
		} else {
			mustNotFind(t, l)
		}
	}
}
