package rlog_test

import (
	"bytes"
	"math"
	"math/rand"
	"strconv"
	"testing"

	"dotterel/api"
	"dotterel/rlog"
)

// far are indexes at the edges of their kind, and some that are like small ones when they are cut to fewer bits.
var far = []int{math.MinInt, math.MinInt + 1, -1 << 62, -1<<32 + 1, -1 << 32, -257, -2, -1, 1 << 31, 1<<32 + 1, 1 << 62, math.MaxInt - 1, math.MaxInt}

// model is a log as the document words it: each entry by its index.
type model struct {
	base, term, last int
	entries          map[int]api.Entry
}

func newModel(base, term int) *model {
	return &model{base: base, term: term, last: base, entries: map[int]api.Entry{}}
}

func (m *model) termAt(i int) (int, bool) {
	if i == m.base {
		return m.term, true
	}
	e, ok := m.entries[i]
	return e.Term, ok
}

func (m *model) push(e api.Entry) int {
	m.last++
	m.entries[m.last] = e
	return m.last
}

func (m *model) match(prev, term int, es []api.Entry) (int, bool) {
	if mine, ok := m.termAt(prev); !ok || mine != term {
		return 0, false
	}
	for k, e := range es {
		i := prev + 1 + k
		if mine, ok := m.entries[i]; ok && mine.Term == e.Term {
			continue
		}
		for ; m.last >= i; m.last-- {
			delete(m.entries, m.last)
		}
		for _, e := range es[k:] {
			m.push(e)
		}
		return i, true
	}
	return m.last + 1, true
}

func (m *model) from(i, most int) []api.Entry {
	var es []api.Entry
	for ; len(es) < most; i++ {
		e, ok := m.entries[i]
		if !ok {
			break
		}
		es = append(es, e)
	}
	return es
}

func (m *model) cut(i int) bool {
	term, ok := m.termAt(i)
	if !ok {
		return false
	}
	for j := m.base + 1; j <= i; j++ {
		delete(m.entries, j)
	}
	m.base, m.term = i, term
	return true
}

func same(e, f api.Entry) bool {
	return e.Term == f.Term && e.Kind == f.Kind && bytes.Equal(e.B, f.B)
}

func sameAll(es, fs []api.Entry) bool {
	if len(es) != len(fs) {
		return false
	}
	for k := range es {
		if !same(es[k], fs[k]) {
			return false
		}
	}
	return true
}

// of are entries of these terms, whose bytes begin with the name, each with its place among them.
func of(name string, terms ...int) []api.Entry {
	es := []api.Entry{}
	for k, term := range terms {
		es = append(es, api.Entry{Term: term, Kind: k % 3, B: []byte(name + strconv.Itoa(k))})
	}
	return es
}

// filled is a log of that base, with these entries, and the model of it.
func filled(t *testing.T, base, term int, es []api.Entry) (*rlog.Log, *model) {
	t.Helper()
	l, m := rlog.New(base, term), newModel(base, term)
	if l == nil {
		t.Fatalf("New(%d, %d) is nil", base, term)
	}
	for _, e := range es {
		if got, want := l.Push(e), m.push(e); got != want {
			t.Fatalf("Push is %d, not %d", got, want)
		}
	}
	return l, m
}

// look holds all that a log tells against its model.
func look(t *testing.T, l *rlog.Log, m *model) {
	t.Helper()
	if i, term := l.Base(); i != m.base || term != m.term {
		t.Fatalf("Base is %d, %d, not %d, %d", i, term, m.base, m.term)
	}
	last, _ := m.termAt(m.last)
	if i, term := l.Last(); i != m.last || term != last {
		t.Fatalf("Last is %d, %d, not %d, %d", i, term, m.last, last)
	}
	for _, i := range far {
		lookAt(t, l, m, i)
	}
	for i := m.base - 2; i <= m.last+2; i++ {
		lookAt(t, l, m, i)
	}
}

// lookAt holds what a log tells of one index against its model.
func lookAt(t *testing.T, l *rlog.Log, m *model, i int) {
	t.Helper()
	term, ok := l.Term(i)
	if want, there := m.termAt(i); term != want || ok != there {
		t.Fatalf("Term(%d) is %d, %v, not %d, %v", i, term, ok, want, there)
	}
	e, ok := l.Get(i)
	if want, there := m.entries[i]; !same(e, want) || ok != there {
		t.Fatalf("Get(%d) is %v, %v, not %v, %v", i, e, ok, want, there)
	}
	for _, most := range []int{math.MinInt, -1, 0, 1, 2, 1 << 40, math.MaxInt} {
		if got, want := l.From(i, most), m.from(i, most); !sameAll(got, want) {
			t.Fatalf("From(%d, %d) is %v, not %v", i, most, got, want)
		}
	}
}

// match calls Match of a log and of its model, which must tell the same.
func match(t *testing.T, l *rlog.Log, m *model, prev, term int, es []api.Entry) (first int, ok bool) {
	t.Helper()
	first, ok = l.Match(prev, term, es)
	if want, there := m.match(prev, term, es); first != want || ok != there {
		t.Fatalf("Match(%d, %d, %v) is %d, %v, not %d, %v", prev, term, es, first, ok, want, there)
	}
	return first, ok
}

// mustMatch wants Match to tell that index, and the log to have these terms then, from its base on.
func mustMatch(t *testing.T, l *rlog.Log, prev, term int, es []api.Entry, first int, terms ...int) {
	t.Helper()
	if f, ok := l.Match(prev, term, es); f != first || !ok {
		t.Fatalf("Match(%d, %d, %v) is %d, %v, not %d", prev, term, es, f, ok, first)
	}
	mustTerms(t, l, terms...)
}

// mustTerms wants the log to have these terms, from its base on.
func mustTerms(t *testing.T, l *rlog.Log, terms ...int) {
	t.Helper()
	base, _ := l.Base()
	for k, want := range terms {
		if term, ok := l.Term(base + k); term != want || !ok {
			t.Fatalf("Term(%d) is %d, %v, not %d", base+k, term, ok, want)
		}
	}
	if last, _ := l.Last(); last != base+len(terms)-1 {
		t.Fatalf("the last index is %d, not %d", last, base+len(terms)-1)
	}
}

// P14.1: a log is there when neither number is below 0.
func TestNew(t *testing.T) {
	wrong := []int{math.MinInt, math.MinInt + 1, -1 << 32, -1<<32 + 1, -2, -1}
	right := []int{0, 1, 2, 1 << 31, 1 << 32, 1 << 62, math.MaxInt - 1, math.MaxInt}
	for _, w := range wrong {
		for _, n := range append(wrong, right...) {
			if rlog.New(w, n) != nil || rlog.New(n, w) != nil {
				t.Fatalf("there is a log of %d and %d", w, n)
			}
		}
	}
	for _, base := range right {
		for _, term := range right {
			l := rlog.New(base, term)
			if l == nil {
				t.Fatalf("New(%d, %d) is nil", base, term)
			}
			if i, x := l.Base(); i != base || x != term {
				t.Fatalf("Base is %d, %d, not %d, %d", i, x, base, term)
			}
			if i, x := l.Last(); i != base || x != term {
				t.Fatalf("Last is %d, %d, not %d, %d", i, x, base, term)
			}
			if x, ok := l.Term(base); x != term || !ok {
				t.Fatalf("Term(%d) is %d, %v, not %d", base, x, ok, term)
			}
			if e, ok := l.Get(base); !same(e, api.Entry{}) || ok || len(l.From(base, 1)) != 0 {
				t.Fatalf("there is an entry at the base %d", base)
			}
		}
	}
}

// The chapter's example.
func TestExample(t *testing.T) {
	l, _ := filled(t, 0, 0, of("a", 1, 1))
	mustMatch(t, l, 1, 1, of("b", 2), 2, 0, 1, 2)
	if e, ok := l.Get(2); string(e.B) != "b0" || !ok {
		t.Fatal(e, ok)
	}
}

// P14.1: what is pushed comes behind all, whatever its parts are, also of terms that fall.
func TestPush(t *testing.T) {
	for _, base := range []int{0, 1, 7, 1 << 40} {
		l, m := filled(t, base, 3, nil)
		look(t, l, m)
		es := []api.Entry{
			{}, {Term: 5, Kind: api.EntryMembers, B: []byte{1, 2}}, {Term: 5, B: []byte{}},
			{Term: -1, Kind: -1}, {Term: math.MaxInt, Kind: math.MaxInt, B: make([]byte, 3000)},
			{Term: math.MinInt, Kind: math.MinInt, B: []byte{0}}, {Term: 2, Kind: api.EntryCommand},
		}
		for k, e := range es {
			if i := l.Push(e); i != base+1+k || i != m.push(e) {
				t.Fatalf("Push is %d, not %d", i, base+1+k)
			}
			look(t, l, m)
		}
	}
}

// P14.1: From tells what there is from i on, never more than is asked for, and nothing from where there is no entry.
func TestFrom(t *testing.T) {
	l, _ := filled(t, 5, 2, of("a", 2, 3, 3))
	for _, x := range []struct {
		i, most int
		want    string
	}{
		{6, 3, "a0a1a2"}, {6, 9, "a0a1a2"}, {6, 2, "a0a1"}, {6, 1, "a0"}, {7, 1, "a1"}, {7, 2, "a1a2"}, {8, 5, "a2"}, {8, math.MaxInt, "a2"},
		{6, 0, ""}, {6, -1, ""}, {6, math.MinInt, ""}, {5, 9, ""}, {4, 9, ""}, {0, 9, ""}, {-1, 9, ""}, {9, 9, ""}, {math.MaxInt, 9, ""}, {math.MinInt, 9, ""},
	} {
		got := ""
		for _, e := range l.From(x.i, x.most) {
			got += string(e.B)
		}
		if got != x.want {
			t.Errorf("From(%d, %d) is %q, not %q", x.i, x.most, got, x.want)
		}
	}
}

// P14.2: without that term at prev nothing is matched, and nothing changes.
func TestNoMatch(t *testing.T) {
	l, m := filled(t, 5, 2, of("a", 3, 3, 4))
	news := of("b", 9, 9)
	for prev := range 12 {
		mine, there := m.termAt(prev)
		for _, term := range []int{math.MinInt, -1, 0, 1, 2, 3, 4, 5, 9, math.MaxInt} {
			if there && term == mine {
				continue
			}
			for _, es := range [][]api.Entry{nil, {}, news, of("c", 3, 3, 4)} {
				if first, ok := l.Match(prev, term, es); first != 0 || ok {
					t.Fatalf("Match(%d, %d) is %d, %v", prev, term, first, ok)
				}
			}
		}
	}
	for _, prev := range far {
		for _, term := range []int{-1, 0, 2, 3, 4} {
			if first, ok := l.Match(prev, term, news); first != 0 || ok {
				t.Fatalf("Match(%d, %d) is %d, %v", prev, term, first, ok)
			}
		}
	}
	look(t, l, m)
}

// P14.2: what the log has with these terms stays, and what stands behind it too: es may be short, or none.
func TestMatchOfOld(t *testing.T) {
	l, m := filled(t, 5, 2, of("a", 3, 3, 4))
	for _, x := range []struct {
		prev, term int
		terms      []int
	}{
		{5, 2, nil}, {6, 3, nil}, {8, 4, nil}, {5, 2, []int{3}}, {5, 2, []int{3, 3}}, {5, 2, []int{3, 3, 4}}, {6, 3, []int{3}}, {7, 3, []int{4}},
	} {
		mustMatch(t, l, x.prev, x.term, of("b", x.terms...), 9, 2, 3, 3, 4)
		look(t, l, m)
	}
}

// P14.2: entries are told apart by their terms alone: of one term, what the log has stays, with its kind and its bytes.
func TestMatchByTerms(t *testing.T) {
	l, m := filled(t, 0, 0, []api.Entry{{Term: 1, Kind: api.EntryCommand, B: []byte("x")}, {Term: 1, B: []byte("y")}})
	mustMatch(t, l, 0, 0, []api.Entry{{Term: 1, Kind: api.EntryMembers, B: []byte("z")}, {Term: 1}}, 3, 0, 1, 1)
	look(t, l, m)
	// Those behind the last one of theirs that is there are new, though those ahead of it came with other bytes.
	match(t, l, m, 0, 0, []api.Entry{{Term: 1, B: []byte("p")}, {Term: 1, B: []byte("q")}, {Term: 1, B: []byte("r")}})
	look(t, l, m)
	if e, _ := l.Get(1); string(e.B) != "x" || e.Kind != api.EntryCommand {
		t.Fatal(e)
	}
	if e, _ := l.Get(3); string(e.B) != "r" {
		t.Fatal(e)
	}
}

// P14.2: from the first one that differs on all goes, also what would have the right terms again, and also where fewer come than go.
func TestMatchOfOthers(t *testing.T) {
	base := func() *rlog.Log { l, _ := filled(t, 5, 2, of("a", 3, 3, 4, 4)); return l }
	mustMatch(t, base(), 5, 2, of("b", 4), 6, 2, 4)
	mustMatch(t, base(), 5, 2, of("b", 1), 6, 2, 1)
	mustMatch(t, base(), 5, 2, of("b", 3, 4), 7, 2, 3, 4)
	mustMatch(t, base(), 6, 3, of("b", 4), 7, 2, 3, 4)
	mustMatch(t, base(), 6, 3, of("b", 4, 4, 4, 5), 7, 2, 3, 4, 4, 4, 5)
	mustMatch(t, base(), 7, 3, of("b", 4, 5), 9, 2, 3, 3, 4, 5)
	mustMatch(t, base(), 7, 3, of("b", 4, 4, 5), 10, 2, 3, 3, 4, 4, 5)
	mustMatch(t, base(), 9, 4, of("b", 4, 6), 10, 2, 3, 3, 4, 4, 4, 6)
	mustMatch(t, base(), 9, 4, of("b", math.MinInt), 10, 2, 3, 3, 4, 4, math.MinInt)
	l := base()
	mustMatch(t, l, 5, 2, of("b", 3, 5, 4, 4), 7, 2, 3, 5, 4, 4)
	for i, want := range []string{"a0", "b1", "b2", "b3"} {
		if e, _ := l.Get(6 + i); string(e.B) != want {
			t.Fatalf("entry %d is %q, not %q", 6+i, e.B, want)
		}
	}
	// A term that is like the log's when it is cut to fewer bits is another one.
	mustMatch(t, base(), 5, 2, of("b", 3+1<<32), 6, 2, 3+1<<32)
	if _, ok := base().Match(5, 2+1<<32, nil); ok {
		t.Fatal("matched by a term of fewer bits")
	}
}

// P14.2: the base goes on to any entry, and the last one, but not behind it, nor ahead of where it is.
func TestCut(t *testing.T) {
	for i := range 12 {
		l, m := filled(t, 5, 2, of("a", 3, 3, 4))
		if got, want := l.Cut(i), i >= 5 && i <= 8; got != want || m.cut(i) != want {
			t.Fatalf("Cut(%d) is %v", i, got)
		}
		look(t, l, m)
		e := api.Entry{Term: 7, B: []byte("new")}
		if got, want := l.Push(e), m.push(e); got != want || got != 9 {
			t.Fatalf("Push is %d, not %d", got, want)
		}
		look(t, l, m)
	}
	l, m := filled(t, 5, 2, of("a", 3, 3, 4))
	for _, i := range far {
		if l.Cut(i) {
			t.Fatalf("Cut(%d) is true", i)
		}
	}
	look(t, l, m)
}

// P14.2: behind a cut, Match begins at the new base, with its term, and at nothing ahead of it.
func TestMatchBehindCut(t *testing.T) {
	l, m := filled(t, 5, 2, of("a", 3, 3, 4, 4))
	l.Cut(7)
	m.cut(7)
	for _, x := range [][2]int{{5, 2}, {6, 3}, {7, 2}, {7, 4}, {0, 0}} {
		if first, ok := match(t, l, m, x[0], x[1], of("b", 4)); first != 0 || ok {
			t.Fatal(first, ok)
		}
	}
	mustMatch(t, l, 7, 3, of("b", 4), 10, 3, 4, 4)
	mustMatch(t, l, 7, 3, of("b", 4, 5), 9, 3, 4, 5)
	if !l.Cut(9) || l.Cut(8) || l.Cut(10) || !l.Cut(9) {
		t.Fatal("cut")
	}
	mustMatch(t, l, 9, 5, nil, 10, 5)
	mustMatch(t, l, 9, 5, of("b", 5, 6), 10, 5, 5, 6)
}

// R4: what is handed in is kept by its values alone, and is not changed, nor is what lies behind its length.
func TestHandedIn(t *testing.T) {
	l := rlog.New(0, 0)
	b := []byte("abcdefgh")
	all := []api.Entry{{Term: 1, B: b[:2]}, {Term: 1, B: b[2:4]}, {Term: 8, B: b[4:6]}, {Term: 9, B: b[6:]}}
	l.Push(api.Entry{Term: 1, B: b[:2]})
	if first, ok := l.Match(0, 0, all[:2]); first != 2 || !ok {
		t.Fatal(first, ok)
	}
	l.Push(api.Entry{Term: 3, B: b[4:6]})
	l.Match(3, 3, all[2:3])
	if string(b) != "abcdefgh" || !sameAll(all, []api.Entry{{Term: 1, B: []byte("ab")}, {Term: 1, B: []byte("cd")}, {Term: 8, B: []byte("ef")}, {Term: 9, B: []byte("gh")}}) {
		t.Fatal("what was handed in is changed")
	}
	copy(b, "........")
	clear(all)
	for i, want := range []api.Entry{{Term: 1, B: []byte("ab")}, {Term: 1, B: []byte("cd")}, {Term: 3, B: []byte("ef")}, {Term: 8, B: []byte("ef")}} {
		if e, ok := l.Get(i + 1); !same(e, want) || !ok {
			t.Fatalf("entry %d is %v, not %v", i+1, e, want)
		}
	}
}

// R4: what is answered may be written over, and written behind, and nothing else changes by it.
func TestAnswered(t *testing.T) {
	l, m := filled(t, 2, 1, of("a", 1, 2, 3, 4))
	spoil := func(e *api.Entry) {
		b := e.B[:cap(e.B)]
		for k := range b {
			b[k] = '.'
		}
		*e = api.Entry{Term: 99}
	}
	for range 2 {
		for i := 3; i <= 6; i++ {
			e, _ := l.Get(i)
			spoil(&e)
			for most := range 5 {
				es := l.From(i, most)
				for k := range es {
					spoil(&es[k])
					// The others of the same answer are as they were.
					if !sameAll(es[k+1:], m.from(i, most)[k+1:]) {
						t.Fatalf("From(%d, %d) shares memory", i, most)
					}
				}
				es = es[:cap(es)]
				clear(es)
			}
			look(t, l, m)
		}
		l.Cut(3)
		m.cut(3)
	}
}

// Two logs have nothing in common, also where one was filled by what the other told.
func TestLogsAreApart(t *testing.T) {
	l, m := filled(t, 0, 0, of("a", 1, 2))
	k, n := filled(t, 0, 0, nil)
	match(t, k, n, 0, 0, l.From(1, 9))
	match(t, k, n, 1, 1, of("b", 3))
	k.Cut(2)
	n.cut(2)
	look(t, l, m)
	look(t, k, n)
}

// The greatest number is an index too. Behind it there is none: what would come there doesn't, and nothing goes round.
func TestGreatestIndex(t *testing.T) {
	const most = math.MaxInt
	l := rlog.New(most-2, 4)
	e := api.Entry{Term: 5, B: []byte("x")}
	if i, j := l.Push(e), l.Push(e); i != most-1 || j != most {
		t.Fatal(i, j)
	}
	for range 2 {
		if i := l.Push(e); i != 0 {
			t.Fatal(i)
		}
	}
	if i, term := l.Last(); i != most || term != 5 {
		t.Fatal(i, term)
	}
	if got, ok := l.Get(most); !same(got, e) || !ok || len(l.From(most, most)) != 1 || len(l.From(most-1, most)) != 2 {
		t.Fatal(got, ok)
	}
	for _, i := range []int{math.MinInt, math.MinInt + 1, -1, 0, most - 3} {
		if _, ok := l.Term(i); ok || l.Cut(i) || len(l.From(i, 9)) != 0 {
			t.Fatalf("there is something at %d", i)
		}
	}
	mustMatch(t, l, most-2, 4, of("b", 5, 6, 7, 8), most, 4, 5, 6)
	mustMatch(t, l, most-2, 4, of("b", 5, 6, 7, 8), 0, 4, 5, 6)
	mustMatch(t, l, most, 6, nil, 0, 4, 5, 6)
	mustMatch(t, l, most, 6, of("b", 7), 0, 4, 5, 6)
	mustMatch(t, l, most-1, 5, of("b", 7), most, 4, 5, 7)
	if !l.Cut(most) {
		t.Fatal("cut")
	}
	mustMatch(t, l, most, 7, of("b", 8), 0, 7)
}

// rows calls visit with every row of at most so many of these numbers.
func rows(numbers []int, most int, visit func(row []int)) {
	var longer func(row []int)
	longer = func(row []int) {
		visit(row)
		if len(row) == most {
			return
		}
		for _, n := range numbers {
			longer(append(row[:len(row):len(row)], n))
		}
	}
	longer(nil)
}

// P14.2: every log of at most three entries of two terms, and Match and Cut of every kind at it.
func TestShortLogs(t *testing.T) {
	terms := []int{1, 2}
	rows(terms, 3, func(mine []int) {
		rows(terms, 4, func(theirs []int) {
			for prev := 3; prev <= 9; prev++ {
				for term := range 4 {
					l, m := filled(t, 4, 1, of("a", mine...))
					match(t, l, m, prev, term, of("b", theirs...))
					look(t, l, m)
				}
			}
		})
		for i := 2; i < 10; i++ {
			l, m := filled(t, 4, 1, of("a", mine...))
			if got, want := l.Cut(i), m.cut(i); got != want {
				t.Fatalf("Cut(%d) is %v", i, got)
			}
			look(t, l, m)
		}
	})
}

// P14.1 and P14.2: rows of calls by chance.
func TestRows(t *testing.T) {
	chance := rand.New(rand.NewSource(14))
	some := func(name string) []api.Entry {
		terms := make([]int, chance.Intn(7))
		for k := range terms {
			terms[k] = 1 + chance.Intn(3)
		}
		return of(name, terms...)
	}
	for range 300 {
		l, m := filled(t, chance.Intn(4), chance.Intn(3), nil)
		for call := range 120 {
			near := m.base - 1 + chance.Intn(m.last-m.base+4)
			switch name := strconv.Itoa(call) + "."; chance.Intn(8) {
			case 0, 1:
				for _, e := range some(name) {
					if got, want := l.Push(e), m.push(e); got != want {
						t.Fatalf("Push is %d, not %d", got, want)
					}
				}
			case 2:
				// Seldom far: else there are few entries.
				i := min(near, m.base+chance.Intn(3))
				if got, want := l.Cut(i), m.cut(i); got != want {
					t.Fatalf("Cut(%d) is %v", i, got)
				}
			case 3:
				match(t, l, m, near, chance.Intn(4), some(name))
			case 4:
				// Some of what is there, and others behind it.
				prev := max(near-3, m.base)
				term, _ := m.termAt(prev)
				match(t, l, m, prev, term, append(m.from(prev+1, chance.Intn(6)), some(name)...))
			default:
				term, _ := m.termAt(near)
				match(t, l, m, near, term, some(name))
			}
			look(t, l, m)
		}
	}
}

// letter is what a log of a term's leader tells another one.
type letter struct {
	prev, term int
	es         []api.Entry
}

// P14.3: in each term one log alone gets entries by Push, of that term, and all others are filled by Match from what it has, now or late, or twice: wherever two logs have one term at an index, they are one up to it.
func TestOneUpToATerm(t *testing.T) {
	chance := rand.New(rand.NewSource(143))
	for range 60 {
		logs := []*rlog.Log{}
		for range 4 {
			logs = append(logs, rlog.New(3, 1))
		}
		post := []letter{}
		put, differ := 0, 0
		for term := 2; term < 40; term++ {
			leads := logs[chance.Intn(len(logs))]
			for range 1 + chance.Intn(6) {
				for range chance.Intn(3) {
					put++
					leads.Push(api.Entry{Term: term, B: []byte(strconv.Itoa(put))})
				}
				post = append(post, letterOf(chance, leads))
				for range chance.Intn(4) {
					// The leader doesn't take letters: its own term has no other log's entries.
					if l := logs[chance.Intn(len(logs))]; l != leads {
						m := post[len(post)-1-min(chance.Intn(12), len(post)-1)]
						l.Match(m.prev, m.term, m.es)
					}
				}
				differ += lookAtAll(t, logs)
			}
			if chance.Intn(8) == 0 {
				l := logs[chance.Intn(len(logs))]
				base, _ := l.Base()
				l.Cut(base + chance.Intn(4))
			}
		}
		if differ == 0 {
			t.Fatal("the logs never differed: nothing was tried")
		}
	}
}

// letterOf is what a leader's log tells from one of its indexes on.
func letterOf(chance *rand.Rand, l *rlog.Log) letter {
	base, _ := l.Base()
	last, _ := l.Last()
	prev := base + chance.Intn(last-base+1)
	term, _ := l.Term(prev)
	return letter{prev, term, l.From(prev+1, chance.Intn(6))}
}

// lookAtAll holds each two of the logs against each other, and tells at how many indexes they have other terms.
func lookAtAll(t *testing.T, logs []*rlog.Log) int {
	t.Helper()
	differ := 0
	for a, l := range logs {
		for _, m := range logs[:a] {
			lb, _ := l.Base()
			mb, _ := m.Base()
			ll, _ := l.Last()
			ml, _ := m.Last()
			one := false
			for i := min(ll, ml); i > max(lb, mb); i-- {
				e, _ := l.Get(i)
				f, _ := m.Get(i)
				if e.Term != f.Term {
					differ++
				}
				one = one || e.Term == f.Term
				if one && !same(e, f) {
					t.Fatalf("entry %d is %v, and %v at another log, though they have one term at it or behind it", i, e, f)
				}
			}
		}
	}
	return differ
}

// P14.1 and P14.2: a long log, by many calls and by few.
func TestLong(t *testing.T) {
	const many = 100000
	l, k := rlog.New(0, 0), rlog.New(0, 0)
	for i := range many {
		e := api.Entry{Term: i / 10, B: []byte(strconv.Itoa(i))}
		if got := l.Push(e); got != i+1 {
			t.Fatal(got)
		}
	}
	if first, ok := k.Match(0, 0, l.From(1, many)); first != 1 || !ok {
		t.Fatal(first, ok)
	}
	if !l.Cut(many / 2) {
		t.Fatal("cut")
	}
	if first, ok := k.Match(many/2, many/20-1, l.From(many/2+1, many)); first != many+1 || !ok {
		t.Fatal(first, ok)
	}
	es := l.From(many/2+1, many)
	if len(es) != many/2 || !sameAll(es, k.From(many/2+1, many)) {
		t.Fatal(len(es))
	}
	for i, e := range es {
		if e.Term != (many/2+i)/10 || string(e.B) != strconv.Itoa(many/2+i) {
			t.Fatal(i, e)
		}
	}
}
