package place_test

import (
	"math"
	"math/rand"
	"slices"
	"testing"

	"dotterel/api"
	"dotterel/place"
)

// edges are numbers at the edges of their kind, so far apart that the way from one to another has no number, and some that are like one another when they are cut to fewer bits.
var edges = []int{math.MinInt, math.MinInt + 1, -1 << 62, -1 << 32, -256, -1, 0, 1, 255, 256, 1 << 31, 1 << 32, 1<<32 + 1, 1<<53 + 1, 1 << 62, math.MaxInt - 1, math.MaxInt}

// asWorded takes, one by one, of the rows with the fewest chunks the one of the least number.
func asWorded(l []api.Load, copies int) []int {
	rest := slices.Clone(l)
	chosen := []int{}
	for len(chosen) < copies && len(rest) > 0 {
		at := 0
		for i, row := range rest {
			fewer, like := row.N < rest[at].N, row.N == rest[at].N
			if fewer || like && row.Id < rest[at].Id {
				at = i
			}
		}
		chosen = append(chosen, rest[at].Id)
		rest = slices.Delete(rest, at, at+1)
	}
	return chosen
}

// mustChoose calls Choose and Least: they must answer as the document words it.
func mustChoose(t *testing.T, l []api.Load, copies int) {
	t.Helper()
	if got, want := place.Choose(l, copies), asWorded(l, copies); !slices.Equal(got, want) {
		t.Fatalf("Choose(%v, %d) is %v, not %v", l, copies, got, want)
	}
	id, ok := place.Least(l)
	if want := asWorded(l, 1); ok != (len(want) == 1) || ok && id != want[0] || !ok && id != 0 {
		t.Fatalf("Least(%v) is %d, %v, not of %v", l, id, ok, want)
	}
}

// byChance are that many rows, whose numbers are of those.
func byChance(chance *rand.Rand, rows int, ids, many []int) []api.Load {
	l := make([]api.Load, rows)
	for i := range l {
		l[i] = api.Load{Id: ids[chance.Intn(len(ids))], N: many[chance.Intn(len(many))]}
	}
	return l
}

// upTo are the numbers from 0 on, so many.
func upTo(n int) []int {
	l := make([]int, n)
	for i := range l {
		l[i] = i
	}
	return l
}

// The chapter's example.
func TestExample(t *testing.T) {
	l := []api.Load{{Id: 0, N: 3}, {Id: 1, N: 1}, {Id: 2, N: 1}}
	if got := place.Choose(l, 2); !slices.Equal(got, []int{1, 2}) {
		t.Fatal(got)
	}
	if id, ok := place.Least(l); id != 1 || !ok {
		t.Fatal(id, ok)
	}
}

// P19.1: the fewest chunks first, whatever the numbers; the least number first, of those that have like many; as many as copies, all at most.
func TestChoose(t *testing.T) {
	l := []api.Load{{Id: 9, N: 1}, {Id: 0, N: 7}, {Id: 5, N: 4}, {Id: 2, N: 4}, {Id: 7, N: 0}, {Id: 3, N: 4}}
	all := []int{7, 9, 2, 3, 5, 0}
	for copies := range all {
		if got := place.Choose(l, copies); !slices.Equal(got, all[:copies]) {
			t.Errorf("%d: %v", copies, got)
		}
	}
	for _, copies := range []int{6, 7, 8, 255, 256, 1<<32 + 1, 1 << 62, math.MaxInt - 1, math.MaxInt} {
		if got := place.Choose(l, copies); !slices.Equal(got, all) {
			t.Errorf("%d: %v", copies, got)
		}
	}
	for _, copies := range []int{0, -1, -2, -6, -1<<32 + 2, -1 << 62, math.MinInt + 2, math.MinInt} {
		if got := place.Choose(l, copies); len(got) != 0 {
			t.Errorf("%d: %v", copies, got)
		}
	}
	if id, ok := place.Least(l); id != 7 || !ok {
		t.Error(id, ok)
	}
}

// P19.1: where there are no servers none is chosen, and Least is false.
func TestNone(t *testing.T) {
	some := []api.Load{{Id: 5, N: 1}, {Id: 6}}
	for _, l := range [][]api.Load{nil, {}, some[:0]} {
		for _, copies := range []int{math.MinInt, -1, 0, 1, 3, math.MaxInt} {
			mustChoose(t, l, copies)
		}
	}
}

// P19.1: a server that is told twice is two rows, each chosen by its own number of chunks, and both where there are copies enough.
func TestTwice(t *testing.T) {
	l := []api.Load{{Id: 4, N: 1}, {Id: 6, N: 0}, {Id: 4, N: 1}, {Id: 6, N: 2}, {Id: 5, N: 1}}
	for copies, want := range [][]int{{}, {6}, {6, 4}, {6, 4, 4}, {6, 4, 4, 5}, {6, 4, 4, 5, 6}, {6, 4, 4, 5, 6}} {
		if got := place.Choose(l, copies); !slices.Equal(got, want) {
			t.Errorf("%d: %v", copies, got)
		}
	}
	same := slices.Repeat([]api.Load{{Id: -3, N: 2}}, 40)
	for copies := range 42 {
		mustChoose(t, same, copies)
	}
}

// P19.1: every list of up to four rows, of three servers that have up to two chunks.
func TestShortLists(t *testing.T) {
	const ids, counts = 3, 3
	for rows, lists := 0, 1; rows <= 4; rows, lists = rows+1, lists*ids*counts {
		for number := range lists {
			l := make([]api.Load, rows)
			for i := range l {
				l[i] = api.Load{Id: number % ids, N: number / ids % counts}
				number /= ids * counts
			}
			for copies := -1; copies <= rows+1; copies++ {
				mustChoose(t, l, copies)
			}
		}
	}
}

// P19.1: any number may be a server's, or tell how many chunks it has: they are held against each other without going round.
func TestAnyNumbers(t *testing.T) {
	for _, a := range edges {
		for _, b := range edges {
			for _, copies := range []int{a, b, 1, 2} {
				mustChoose(t, []api.Load{{Id: 1, N: a}, {Id: 0, N: b}}, copies)
				mustChoose(t, []api.Load{{Id: a, N: 1}, {Id: b, N: 1}}, copies)
				mustChoose(t, []api.Load{{Id: a, N: b}, {Id: b, N: a}}, copies)
			}
		}
	}
	chance := rand.New(rand.NewSource(19))
	for range 2000 {
		l := byChance(chance, chance.Intn(40), edges, edges)
		mustChoose(t, l, chance.Intn(42))
		mustChoose(t, l, edges[chance.Intn(len(edges))])
	}
}

// P19.1: lists by chance, longer than those that are ordered by the simplest way, with many rows that have like many chunks, and with few.
func TestLists(t *testing.T) {
	chance := rand.New(rand.NewSource(1901))
	for range 1500 {
		rows := chance.Intn(120)
		l := byChance(chance, rows, upTo(1+chance.Intn(200)), upTo(1+chance.Intn(60)))
		mustChoose(t, l, chance.Intn(rows+2))
	}
}

// P19.1: in whatever order the rows are told, the answer is one.
func TestOrderOfRows(t *testing.T) {
	chance := rand.New(rand.NewSource(1902))
	for range 200 {
		l := byChance(chance, 1+chance.Intn(60), upTo(30), upTo(6))
		copies := 1 + chance.Intn(len(l))
		want := place.Choose(l, copies)
		for range 5 {
			chance.Shuffle(len(l), func(i, j int) { l[i], l[j] = l[j], l[i] })
			if got := place.Choose(l, copies); !slices.Equal(got, want) {
				t.Fatalf("Choose(%v, %d) is %v, and was %v in another order", l, copies, got, want)
			}
			if id, ok := place.Least(l); id != want[0] || !ok {
				t.Fatalf("Least(%v) is %d, %v, and was %d in another order", l, id, ok, want[0])
			}
		}
	}
}

// P19.1: a list of many rows, where the last ones are chosen first.
func TestMany(t *testing.T) {
	const rows = 1 << 18
	l := make([]api.Load, rows)
	for i := range l {
		l[i] = api.Load{Id: rows - i, N: (rows - 1 - i) / 2}
	}
	for _, copies := range []int{1, 2, 3, 1000, rows - 1, rows, rows + 1} {
		got := place.Choose(l, copies)
		if len(got) != min(copies, rows) {
			t.Fatalf("%d: %d were chosen", copies, len(got))
		}
		for i, id := range got {
			if id != i+1 {
				t.Fatalf("%d: at %d is %d", copies, i, id)
			}
		}
	}
	if id, ok := place.Least(l); id != 1 || !ok {
		t.Fatal(id, ok)
	}
}

// R4: what is handed in stays as it is, and so does what lies behind its length; that is not read either.
func TestHandedIn(t *testing.T) {
	whole := []api.Load{{Id: 3, N: 5}, {Id: 2, N: 4}, {Id: 8, N: 4}, {Id: 1, N: 0}, {Id: 0, N: 0}}
	before := slices.Clone(whole)
	l := whole[:3]
	for copies, want := range [][]int{{}, {2}, {2, 8}, {2, 8, 3}, {2, 8, 3}, {2, 8, 3}} {
		if got := place.Choose(l, copies); !slices.Equal(got, want) {
			t.Fatal(copies, got)
		}
		if id, ok := place.Least(l); id != 2 || !ok {
			t.Fatal(id, ok)
		}
		if !slices.Equal(whole, before) {
			t.Fatalf("%d: the rows are %v now", copies, whole)
		}
	}
}

// R4 and R6: what is answered is the asker's: written over, and longer, it changes neither the rows nor an answer of the same call, ahead or behind.
func TestAnswered(t *testing.T) {
	l := []api.Load{{Id: 3, N: 5}, {Id: 2, N: 4}, {Id: 8, N: 4}}
	before := slices.Clone(l)
	for copies, want := range [][]int{{}, {2}, {2, 8}, {2, 8, 3}} {
		first, second := place.Choose(l, copies), place.Choose(l, copies)
		first = append(first, 77)
		clear(first)
		if !slices.Equal(second, want) || !slices.Equal(l, before) || !slices.Equal(place.Choose(l, copies), want) {
			t.Fatalf("%d: %v of %v", copies, second, l)
		}
	}
}

// P19.2: whoever isn't chosen has at least as many chunks as each that is.
func TestNotChosen(t *testing.T) {
	chance := rand.New(rand.NewSource(1903))
	for range 1000 {
		// Each server once: so who is chosen tells which rows are.
		l := byChance(chance, chance.Intn(50), []int{0}, upTo(1+chance.Intn(20)))
		for i, id := range chance.Perm(len(l)) {
			l[i].Id = id
		}
		copies := chance.Intn(len(l) + 2)
		chosen := place.Choose(l, copies)
		most := -1
		for _, row := range l {
			if slices.Contains(chosen, row.Id) {
				most = max(most, row.N)
			}
		}
		for _, row := range l {
			if !slices.Contains(chosen, row.Id) && row.N < most {
				t.Fatalf("of %v not %v is chosen, but one with %d chunks is", l, row, most)
			}
		}
	}
}

// mustBeEven looks at each server that had none at first: it may have one more than any other, at most.
func mustBeEven(t *testing.T, first, now []api.Load) {
	t.Helper()
	for i, row := range now {
		for _, other := range now {
			if first[i].N == 0 && row.N > other.N+1 {
				t.Fatalf("%v had none, and there is %v now, of %v", row, other, now)
			}
		}
	}
}

// lay gives each of those servers, each of which is told once, a chunk more.
func lay(l []api.Load, servers []int) {
	for i := range l {
		if slices.Contains(servers, l[i].Id) {
			l[i].N++
		}
	}
}

// P19.2: chunks that are placed one by one, of like many copies or of others each time, with servers that have some already or not.
func TestOneByOne(t *testing.T) {
	chance := rand.New(rand.NewSource(1904))
	for range 300 {
		// Of one count there are servers alone that had none.
		first := byChance(chance, 1+chance.Intn(12), []int{0}, upTo(1+chance.Intn(8)))
		for i, id := range chance.Perm(len(first)) {
			first[i].Id = id
		}
		now := slices.Clone(first)
		copies, like := 1+chance.Intn(5), chance.Intn(2) == 0
		for range 60 {
			if !like {
				copies = chance.Intn(5)
			}
			lay(now, place.Choose(now, copies))
			mustBeEven(t, first, now)
		}
	}
}

// P19.2: chunks of one copy, each where Least tells.
func TestLeastOneByOne(t *testing.T) {
	first := []api.Load{{Id: 2, N: 0}, {Id: 0, N: 0}, {Id: 1, N: 3}}
	now := slices.Clone(first)
	for i, want := range []int{0, 2, 0, 2, 0, 2, 0, 1, 2, 0, 1, 2} {
		id, ok := place.Least(now)
		if id != want || !ok {
			t.Fatalf("chunk %d comes to %d, not %d: %v", i, id, want, now)
		}
		lay(now, []int{id})
		mustBeEven(t, first, now)
	}
}
