package ballot_test

import (
	"bytes"
	"encoding/binary"
	"math"
	"math/big"
	"math/rand"
	"slices"
	"testing"

	"dotterel/api"
	"dotterel/ballot"
)

// mostTerm is 2^40, as the chapter says.
const mostTerm = 1099511627776

// terms are ordinary ones, those at the edges, numbers that are none, and some that are like others when they are cut to fewer bits; rising.
var terms = []int{
	math.MinInt, math.MinInt + 1, -1 << 40, -1<<32 + 3, -2, -1, 0, 1, 2, 3, 4, 9, 127, 128, 255, 256, 1 << 16, 1<<31 - 1, 1 << 31, 1<<32 - 1, 1 << 32, 1<<32 + 3,
	mostTerm - 1, mostTerm, mostTerm + 1, mostTerm + 3, 1 << 41, 1 << 62, math.MaxInt - 1, math.MaxInt,
}

// votes are all that are right, and numbers that aren't, of the same sorts; rising.
var votes = []int{
	math.MinInt, math.MinInt + 1, math.MinInt + 3, -1 << 32, -1<<32 + 3, -256, -17, -16, -15, -3, -2, -1, 0, 1, 2, 3, 4, 5, 6, 7, 8, 9, 10, 11, 12, 13, 14, 15, 16, 17, 18, 31, 255, 256, 259, 1 << 16,
	1 << 31, 1<<32 - 1, 1 << 32, 1<<32 + 3, 1<<40 + 3, 1 << 62, math.MaxInt - 1, math.MaxInt,
}

// rightAsWorded tells the chapter's words one behind the other.
func rightAsWorded(b api.Ballot) bool {
	if b.Term < 0 || b.Term > mostTerm {
		return false
	}
	for who := -1; who <= 15; who++ {
		if b.Vote == who {
			return true
		}
	}
	return false
}

// seenAsWorded is b behind a term.
func seenAsWorded(b api.Ballot, term int) api.Ballot {
	if b.Term < term {
		b.Term, b.Vote = term, -1
	}
	return b
}

// grantedAsWorded tells the words for a Grant, one behind the other.
func grantedAsWorded(b api.Ballot, term, who int, asNew bool) (api.Ballot, bool) {
	seen := seenAsWorded(b, term)
	given := asNew && 0 <= who && who < 16
	given = given && seen.Term == term
	given = given && (seen.Vote == -1 || seen.Vote == who)
	if given {
		seen.Vote = who
	}
	return seen, given
}

// fieldAsWorded is a number as a field, made apart from the program; one that is below 0 is 0.
func fieldAsWorded(b []byte, n *big.Int) []byte {
	if n.Sign() < 0 {
		return append(b, 0)
	}
	return binary.AppendUvarint(b, n.Uint64())
}

// bytesAsWorded are the fields of a ballot whose vote isn't the greatest int.
func bytesAsWorded(b api.Ballot) []byte {
	term := fieldAsWorded(nil, big.NewInt(int64(b.Term)))
	return fieldAsWorded(term, new(big.Int).Add(big.NewInt(int64(b.Vote)), big.NewInt(1)))
}

// ballots are all of the terms and votes above.
func ballots(visit func(b api.Ballot)) {
	for _, term := range terms {
		for _, vote := range votes {
			visit(api.Ballot{Term: term, Vote: vote})
		}
	}
}

// P16.1: a term from 0 to 2^40, and a vote for one from 0 to 15, or for nobody.
func TestRight(t *testing.T) {
	for _, x := range []struct {
		b    api.Ballot
		want bool
	}{
		{api.Ballot{}, true}, {api.Ballot{Vote: -1}, true}, {api.Ballot{Vote: 15}, true}, {api.Ballot{Term: 1 << 40, Vote: -1}, true}, {api.Ballot{Term: 1 << 40, Vote: 15}, true},
		{api.Ballot{Term: 7, Vote: 3}, true}, {api.Ballot{Term: -1}, false}, {api.Ballot{Term: -1, Vote: -1}, false}, {api.Ballot{Term: 1<<40 + 1}, false}, {api.Ballot{Term: 1<<40 + 1, Vote: -1}, false},
		{api.Ballot{Vote: -2}, false}, {api.Ballot{Vote: 16}, false}, {api.Ballot{Term: 1 << 40, Vote: 16}, false}, {api.Ballot{Term: -1, Vote: -2}, false}, {api.Ballot{Vote: 1<<32 + 3}, false},
		{api.Ballot{Term: math.MinInt, Vote: math.MinInt}, false}, {api.Ballot{Term: math.MaxInt, Vote: math.MaxInt}, false},
	} {
		if got := ballot.Right(x.b); got != x.want {
			t.Errorf("Right(%v) is %v", x.b, got)
		}
	}
	right := 0
	ballots(func(b api.Ballot) {
		if got := ballot.Right(b); got != rightAsWorded(b) {
			t.Fatalf("Right(%v) is %v", b, got)
		} else if got {
			right++
		}
	})
	if right != 18*17 {
		t.Errorf("%d of them are right", right)
	}
}

// P16.1: of a greater term that one, with a vote for nobody, whoever was voted for; else the ballot as it is.
func TestSee(t *testing.T) {
	for _, x := range []struct {
		b    api.Ballot
		term int
		want api.Ballot
	}{
		{api.Ballot{Term: 4, Vote: 2}, 5, api.Ballot{Term: 5, Vote: -1}}, {api.Ballot{Term: 4, Vote: 2}, 4, api.Ballot{Term: 4, Vote: 2}}, {api.Ballot{Term: 4, Vote: 2}, 3, api.Ballot{Term: 4, Vote: 2}},
		{api.Ballot{Term: 4, Vote: -1}, 9, api.Ballot{Term: 9, Vote: -1}}, {api.Ballot{Term: 4, Vote: 0}, 9, api.Ballot{Term: 9, Vote: -1}}, {api.Ballot{Term: 4, Vote: 0}, -9, api.Ballot{Term: 4, Vote: 0}},
		{api.Ballot{}, 1, api.Ballot{Term: 1, Vote: -1}}, {api.Ballot{}, 0, api.Ballot{}}, {api.Ballot{Vote: -1}, math.MaxInt, api.Ballot{Term: math.MaxInt, Vote: -1}},
	} {
		if got := ballot.See(x.b, x.term); got != x.want {
			t.Errorf("See(%v, %d) is %v, not %v", x.b, x.term, got, x.want)
		}
	}
	ballots(func(b api.Ballot) {
		for _, term := range terms {
			if got, want := ballot.See(b, term), seenAsWorded(b, term); got != want {
				t.Fatalf("See(%v, %d) is %v, not %v", b, term, got, want)
			}
		}
	})
}

// P16.1: the last term counts ahead of the last index.
func TestAsNew(t *testing.T) {
	for _, x := range []struct {
		term, index, otherTerm, otherIndex int
		want                               bool
	}{
		{0, 0, 0, 0, true}, {3, 7, 3, 7, true}, {3, 7, 3, 8, false}, {3, 8, 3, 7, true}, {3, 1, 2, 9, true}, {2, 9, 3, 1, false}, {3, 9, 2, 1, true}, {2, 1, 3, 9, false},
		{0, 0, 0, 1, false}, {1, 0, 0, 9, true}, {0, 9, 1, 0, false}, {1 << 32, 0, 1, 0, true}, {1, 0, 1 << 32, 0, false}, {1, 1 << 32, 1, 1, true}, {1, 1, 1, 1 << 32, false},
	} {
		if got := ballot.AsNew(x.term, x.index, x.otherTerm, x.otherIndex); got != x.want {
			t.Errorf("AsNew(%d, %d, %d, %d) is %v", x.term, x.index, x.otherTerm, x.otherIndex, got)
		}
	}
}

// P16.1: the terms above are rising, so where they stand tells which of two logs is as new: also of numbers whose difference goes round.
func TestAsNewOfAny(t *testing.T) {
	if !slices.IsSorted(terms) || len(slices.Compact(slices.Clone(terms))) != len(terms) {
		t.Fatal("the terms don't rise")
	}
	n := len(terms)
	// A log by where its term and its index stand; one is as new if it stands no further ahead.
	for log := range n * n {
		for other := range n * n {
			got := ballot.AsNew(terms[log/n], terms[log%n], terms[other/n], terms[other%n])
			if got != (log >= other) {
				t.Fatalf("AsNew(%d, %d, %d, %d) is %v", terms[log/n], terms[log%n], terms[other/n], terms[other%n], got)
			}
		}
	}
}

// The chapter's example: Grant to 1 in the term 3, then to 2.
func TestExample(t *testing.T) {
	b, ok := ballot.Grant(api.Ballot{Vote: -1}, 3, 1, true)
	if !ok || b != (api.Ballot{Term: 3, Vote: 1}) {
		t.Fatal(b, ok)
	}
	if b, ok = ballot.Grant(b, 3, 2, true); ok || b != (api.Ballot{Term: 3, Vote: 1}) {
		t.Fatal(b, ok)
	}
}

// P16.1: each thing that the vote hangs on, alone; the ballot behind it is told also where the vote isn't given.
func TestGrant(t *testing.T) {
	for _, x := range []struct {
		b         api.Ballot
		term, who int
		asNew     bool
		want      api.Ballot
		ok        bool
	}{
		{api.Ballot{Term: 4, Vote: -1}, 4, 0, true, api.Ballot{Term: 4, Vote: 0}, true},
		{api.Ballot{Term: 4, Vote: -1}, 4, 15, true, api.Ballot{Term: 4, Vote: 15}, true},
		{api.Ballot{Term: 4, Vote: -1}, 4, 16, true, api.Ballot{Term: 4, Vote: -1}, false},
		{api.Ballot{Term: 4, Vote: -1}, 4, -1, true, api.Ballot{Term: 4, Vote: -1}, false},
		{api.Ballot{Term: 4, Vote: -1}, 4, -2, true, api.Ballot{Term: 4, Vote: -1}, false},
		{api.Ballot{Term: 4, Vote: -1}, 4, 1<<32 + 3, true, api.Ballot{Term: 4, Vote: -1}, false},
		{api.Ballot{Term: 4, Vote: -1}, 4, 7, false, api.Ballot{Term: 4, Vote: -1}, false},
		{api.Ballot{Term: 4, Vote: 7}, 4, 7, true, api.Ballot{Term: 4, Vote: 7}, true},
		{api.Ballot{Term: 4, Vote: 7}, 4, 7, false, api.Ballot{Term: 4, Vote: 7}, false},
		{api.Ballot{Term: 4, Vote: 7}, 4, 8, true, api.Ballot{Term: 4, Vote: 7}, false},
		{api.Ballot{Term: 4, Vote: 7}, 4, -1, true, api.Ballot{Term: 4, Vote: 7}, false},
		{api.Ballot{Term: 4, Vote: 0}, 4, 1, true, api.Ballot{Term: 4, Vote: 0}, false},
		{api.Ballot{Term: 4, Vote: -1}, 3, 7, true, api.Ballot{Term: 4, Vote: -1}, false},
		{api.Ballot{Term: 4, Vote: 7}, 3, 7, true, api.Ballot{Term: 4, Vote: 7}, false},
		{api.Ballot{Term: 4, Vote: 7}, -1, 7, true, api.Ballot{Term: 4, Vote: 7}, false},
		{api.Ballot{Term: 4, Vote: 7}, 5, 8, true, api.Ballot{Term: 5, Vote: 8}, true},
		{api.Ballot{Term: 4, Vote: 7}, 5, 7, true, api.Ballot{Term: 5, Vote: 7}, true},
		{api.Ballot{Term: 4, Vote: 7}, 5, 7, false, api.Ballot{Term: 5, Vote: -1}, false},
		{api.Ballot{Term: 4, Vote: 7}, 5, 16, true, api.Ballot{Term: 5, Vote: -1}, false},
		{api.Ballot{Term: 4, Vote: 7}, 5, -1, true, api.Ballot{Term: 5, Vote: -1}, false},
		{api.Ballot{}, 0, 0, true, api.Ballot{}, true},
		{api.Ballot{}, 0, 1, true, api.Ballot{}, false},
		{api.Ballot{Vote: -1}, 0, 1, true, api.Ballot{Vote: 1}, true},
		{api.Ballot{Vote: -1}, 1 << 40, 9, true, api.Ballot{Term: 1 << 40, Vote: 9}, true},
		// Who can't be voted for gets no vote, also of a ballot that isn't right and has just that one.
		{api.Ballot{Term: 4, Vote: 16}, 4, 16, true, api.Ballot{Term: 4, Vote: 16}, false},
		{api.Ballot{Term: 4, Vote: 16}, 4, 3, true, api.Ballot{Term: 4, Vote: 16}, false},
		{api.Ballot{Term: 4, Vote: -2}, 4, 3, true, api.Ballot{Term: 4, Vote: -2}, false},
		{api.Ballot{Term: 4, Vote: -2}, 4, -2, true, api.Ballot{Term: 4, Vote: -2}, false},
	} {
		if got, ok := ballot.Grant(x.b, x.term, x.who, x.asNew); got != x.want || ok != x.ok {
			t.Errorf("Grant(%v, %d, %d, %v) is %v, %v, not %v, %v", x.b, x.term, x.who, x.asNew, got, ok, x.want, x.ok)
		}
	}
}

// P16.1: all ballots, terms and votes above, against the chapter's words.
func TestGrantAsWorded(t *testing.T) {
	given := 0
	ballots(func(b api.Ballot) {
		for _, term := range terms {
			for _, who := range votes {
				for _, asNew := range []bool{true, false} {
					want, should := grantedAsWorded(b, term, who, asNew)
					got, ok := ballot.Grant(b, term, who, asNew)
					if got != want || ok != should {
						t.Fatalf("Grant(%v, %d, %d, %v) is %v, %v, not %v, %v", b, term, who, asNew, got, ok, want, should)
					}
					if ok {
						given++
					}
				}
			}
		}
	})
	if given < 10000 {
		t.Errorf("only %d votes were given", given)
	}
}

// P16.1: the next term, with a vote for me, whoever was voted for.
func TestStand(t *testing.T) {
	for _, x := range []struct {
		b    api.Ballot
		me   int
		want api.Ballot
	}{
		{api.Ballot{Vote: -1}, 0, api.Ballot{Term: 1, Vote: 0}}, {api.Ballot{Term: 6, Vote: -1}, 5, api.Ballot{Term: 7, Vote: 5}}, {api.Ballot{Term: 6, Vote: 5}, 5, api.Ballot{Term: 7, Vote: 5}},
		{api.Ballot{Term: 6, Vote: 3}, 15, api.Ballot{Term: 7, Vote: 15}}, {api.Ballot{Term: 1<<32 - 1, Vote: 3}, 2, api.Ballot{Term: 1 << 32, Vote: 2}}, {api.Ballot{Term: 1<<40 - 1, Vote: 3}, 2, api.Ballot{Term: 1 << 40, Vote: 2}},
		{api.Ballot{Term: 1 << 40, Vote: 3}, 2, api.Ballot{Term: 1<<40 + 1, Vote: 2}}, {api.Ballot{Term: -1, Vote: 3}, 2, api.Ballot{Term: 0, Vote: 2}},
	} {
		if got := ballot.Stand(x.b, x.me); got != x.want {
			t.Errorf("Stand(%v, %d) is %v, not %v", x.b, x.me, got, x.want)
		}
	}
	ballots(func(b api.Ballot) {
		for _, me := range votes {
			want := api.Ballot{Term: b.Term, Vote: me}
			// No term is behind the greatest int, and terms never fall: nothing is stood for.
			if want.Term++; b.Term == math.MaxInt {
				want = b
			}
			if got := ballot.Stand(b, me); got != want {
				t.Fatalf("Stand(%v, %d) is %v, not %v", b, me, got, want)
			}
		}
	})
}

// P16.1: the fields, 0 for nobody; what they are read as.
func TestBytes(t *testing.T) {
	for _, x := range []struct {
		b    api.Ballot
		want string
	}{
		{api.Ballot{Vote: -1}, "\x00\x00"}, {api.Ballot{}, "\x00\x01"}, {api.Ballot{Vote: 15}, "\x00\x10"}, {api.Ballot{Term: 6, Vote: -1}, "\x06\x00"}, {api.Ballot{Term: 127, Vote: 4}, "\x7f\x05"},
		{api.Ballot{Term: 128, Vote: 4}, "\x80\x01\x05"}, {api.Ballot{Term: 300, Vote: 4}, "\xac\x02\x05"}, {api.Ballot{Term: 1 << 40, Vote: 15}, "\x80\x80\x80\x80\x80\x20\x10"}, {api.Ballot{Term: 1<<40 - 1, Vote: -1}, "\xff\xff\xff\xff\xff\x1f\x00"},
	} {
		if got := ballot.Bytes(x.b); string(got) != x.want {
			t.Errorf("Bytes(%v) is % x, not % x", x.b, got, x.want)
		}
		if got, ok := ballot.Read([]byte(x.want)); !ok || got != x.b {
			t.Errorf("% x is read as %v, %v, not %v", x.want, got, ok, x.b)
		}
	}
}

// P16.1: each right ballot has Bytes of its own, and is read; those of others are no right ballot's, or of one that has just these.
func TestBytesOfAny(t *testing.T) {
	whose := map[string]api.Ballot{}
	ballots(func(b api.Ballot) {
		got := ballot.Bytes(b)
		if b.Vote != math.MaxInt && !bytes.Equal(got, bytesAsWorded(b)) {
			t.Fatalf("Bytes(%v) is % x, not % x", b, got, bytesAsWorded(b))
		}
		if !rightAsWorded(b) {
			return
		}
		if other, there := whose[string(got)]; there {
			t.Fatalf("% x are the Bytes of %v and of %v", got, b, other)
		}
		whose[string(got)] = b
	})
	ballots(func(b api.Ballot) {
		got := ballot.Bytes(b)
		want, should := whose[string(got)]
		if read, ok := ballot.Read(got); ok != should || read != want {
			t.Fatalf("% x, of %v, is read as %v, %v, not %v, %v", got, b, read, ok, want, should)
		}
		// A vote above all that are right doesn't go round to nobody, nor to one.
		if _, ok := ballot.Read(got); ok && (b.Vote > 15 || b.Term > mostTerm) {
			t.Fatalf("% x, of %v, is read", got, b)
		}
	})
}

// mustNotRead wants b to be the Bytes of no right ballot.
func mustNotRead(t *testing.T, b []byte) {
	t.Helper()
	if got, ok := ballot.Read(b); ok || got != (api.Ballot{}) {
		t.Fatalf("% x is read as %v, %v", b, got, ok)
	}
}

// P16.1: bytes that are cut short, have more behind them, or write a number in another way, are no ballot's.
func TestReadOfOthers(t *testing.T) {
	ballots(func(b api.Ballot) {
		if !rightAsWorded(b) {
			return
		}
		whole := ballot.Bytes(b)
		for n := range whole {
			mustNotRead(t, whole[:n])
		}
		for _, more := range []string{"\x00", "\x01", "\x10", "\x80", "\xff\xff"} {
			mustNotRead(t, append(slices.Clone(whole), more...))
		}
		// The last byte of each field, with nothing above it.
		for i := range whole {
			if whole[i] < 0x80 {
				mustNotRead(t, slices.Concat(whole[:i], []byte{whole[i] | 0x80, 0}, whole[i+1:]))
			}
		}
		// The same vote, as its lowest 32 bits, and far above; and the same term so.
		last := len(whole) - 1
		mustNotRead(t, slices.Concat(whole[:last], []byte{whole[last] | 0x80, 0x80, 0x80, 0x80, 0x10}))
		mustNotRead(t, slices.Concat(whole[:last], []byte{whole[last] | 0x80, 1}))
		mustNotRead(t, slices.Concat([]byte{0x83, 0x80, 0x80, 0x80, 0x80, 0x80, 0x80, 0x80, 0x40}, whole[last:]))
	})
	for _, b := range []string{
		"", "\x00", "\x06", "\x06\x11", "\x06\x7f", "\x06\x80\x00", "\x06\x81\x00", "\x06\x80\x01", "\x80\x00\x00", "\x80", "\x06\x80", "\x06\x00\x00",
		"\x81\x80\x80\x80\x80\x20\x00", "\x80\x80\x80\x80\x80\x40\x00", "\xff\xff\xff\xff\xff\x20\x00", "\x80\x80\x80\x80\x80\x80\x01\x00",
		"\xff\xff\xff\xff\xff\xff\xff\xff\x7f\x00", "\xff\xff\xff\xff\xff\xff\xff\xff\xff", "\xff\xff\xff\xff\xff\xff\xff\xff\xff\x01\x00",
		"\x06\xff\xff\xff\xff\xff\xff\xff\xff\x7f", "\x06\xff\xff\xff\xff\xff\xff\xff\xff\xff\x01",
	} {
		mustNotRead(t, []byte(b))
	}
	for _, b := range [][]byte{nil, make([]byte, 1<<20), bytes.Repeat([]byte{0xff}, 1<<20)} {
		mustNotRead(t, b)
	}
}

// P16.1: all rows of up to two bytes, many of three, and longer ones by chance: what is read has just these bytes, and what has them is read.
func TestReadRows(t *testing.T) {
	many := 0
	check := func(b []byte) {
		got, ok := ballot.Read(b)
		if !ok {
			if got != (api.Ballot{}) {
				t.Fatalf("% x is read as %v, %v", b, got, ok)
			}
			return
		}
		many++
		if !rightAsWorded(got) || !bytes.Equal(bytesAsWorded(got), b) {
			t.Fatalf("% x is read as %v", b, got)
		}
	}
	check(nil)
	for x := range 256 {
		check([]byte{byte(x)})
		for y := range 256 {
			check([]byte{byte(x), byte(y)})
			for z := range 40 {
				check([]byte{byte(x), byte(y), byte(z)})
				check([]byte{byte(x), byte(y), byte(z + 120)})
			}
		}
	}
	// Two bytes: a term below 128; three: one below 16,384; each with 17 votes.
	if want := 128*17 + (16384-128)*17; many != want {
		t.Errorf("%d were read, not %d", many, want)
	}
	chance := rand.New(rand.NewSource(161))
	for range 200000 {
		b := api.Ballot{Term: chance.Intn(mostTerm+2) >> chance.Intn(41), Vote: chance.Intn(18) - 1}
		whole := bytesAsWorded(b)
		if got, ok := ballot.Read(whole); ok != rightAsWorded(b) || ok && got != b {
			t.Fatalf("% x, of %v, is read as %v, %v", whole, b, got, ok)
		}
		whole[chance.Intn(len(whole))] ^= 1 << chance.Intn(8)
		check(whole)
	}
}

// box is one that votes: its ballot, whom it gave its vote by terms, and the greatest term that it had.
type box struct {
	t    *testing.T
	b    api.Ballot
	gave map[int]int
	most int
}

// openBox is one that has the ballot b; a vote that is in it was given.
func openBox(t *testing.T, b api.Ballot) *box {
	x := &box{t: t, b: b, gave: map[int]int{}, most: b.Term}
	x.voted()
	return x
}

// clone is a box of its own that goes on from x.
func (x *box) clone() *box {
	y := *x
	y.gave = map[int]int{}
	for term, who := range x.gave {
		y.gave[term] = who
	}
	return &y
}

// voted notes the vote in its ballot, and wants no other one in that term.
func (x *box) voted() {
	x.t.Helper()
	if x.b.Term < x.most {
		x.t.Fatalf("the term fell from %d to %d", x.most, x.b.Term)
	}
	x.most = x.b.Term
	who, voted := x.gave[x.b.Term]
	if voted && who != x.b.Vote {
		x.t.Fatalf("in the term %d it voted for %d, then for %d", x.b.Term, who, x.b.Vote)
	}
	if x.b.Vote != -1 {
		x.gave[x.b.Term] = x.b.Vote
	}
}

// grant asks for the vote; who gets it has it in just that term.
func (x *box) grant(term, who int, asNew bool) {
	x.t.Helper()
	var ok bool
	if x.b, ok = ballot.Grant(x.b, term, who, asNew); ok {
		if before, voted := x.gave[term]; voted && before != who {
			x.t.Fatalf("in the term %d it gave its vote to %d, then to %d", term, before, who)
		}
		if x.b != (api.Ballot{Term: term, Vote: who}) {
			x.t.Fatalf("the vote in %d is given to %d, but kept as %v", term, who, x.b)
		}
	}
	x.voted()
}

// call makes one of the calls on its ballot, told by a number.
func (x *box) call(n, term, who int) {
	x.t.Helper()
	switch n {
	case 0:
		x.b = ballot.See(x.b, term)
	case 1:
		x.b = ballot.Stand(x.b, who)
	case 2:
		// Kept, and read again, as of one that crashed; who isn't right isn't kept.
		if b, ok := ballot.Read(ballot.Bytes(x.b)); ok && rightAsWorded(x.b) {
			x.b = b
		} else if rightAsWorded(x.b) {
			x.t.Fatalf("%v isn't read again", x.b)
		}
	default:
		x.grant(term, who, n == 3)
		return
	}
	x.voted()
}

// P16.2: all rows of up to four calls in few terms, by few who ask.
func TestVotesOfRows(t *testing.T) {
	rows := 0
	var goOn func(x *box, left int)
	goOn = func(x *box, left int) {
		rows++
		if left == 0 {
			return
		}
		for n := range 5 {
			for term := 1; term <= 3; term++ {
				for who := -1; who <= 2; who++ {
					// A call that takes no term, or nobody, is made but once.
					if n == 2 && (term > 1 || who > -1) || n == 1 && (term > 1 || who == -1) || n == 0 && who > -1 {
						continue
					}
					y := x.clone()
					y.call(n, term, who)
					goOn(y, left-1)
				}
			}
		}
	}
	goOn(openBox(t, api.Ballot{Vote: -1}), 4)
	goOn(openBox(t, api.Ballot{Term: 2, Vote: 0}), 3)
	if rows < 500000 {
		t.Errorf("%d rows were tried", rows)
	}
}

// P16.2: long rows of calls by chance, from ballots that are right and from others, with any numbers.
func TestVotesByChance(t *testing.T) {
	chance := rand.New(rand.NewSource(162))
	gave := 0
	ballots(func(b api.Ballot) {
		x := openBox(t, b)
		for range 60 {
			// Around its term, so that calls of one term meet; seldom far off.
			term, who := x.b.Term+chance.Intn(4)-2, chance.Intn(18)-1
			if chance.Intn(30) == 0 {
				term, who = terms[chance.Intn(len(terms))], votes[chance.Intn(len(votes))]
			}
			// What is stood for is oneself, who can be voted for.
			n := chance.Intn(12)
			if n == 1 {
				who = chance.Intn(16)
			}
			x.call(min(n, 3+n%2), term, who)
		}
		gave += len(x.gave)
	})
	if gave < 10000 {
		t.Errorf("only %d votes were given", gave)
	}
}

// P16.2: in each term one of those who ask has votes of more than half of all, at most, whatever is asked for, in any order.
func TestOneIsVotedFor(t *testing.T) {
	chance := rand.New(rand.NewSource(163))
	elected := 0
	for range 2000 {
		var all [5]api.Ballot
		for i := range all {
			all[i].Vote = -1
		}
		// Who voted for whom, by terms.
		var has [4][5][5]int
		for range 80 {
			i, term, who := chance.Intn(5), chance.Intn(4), chance.Intn(5)
			var ok bool
			if all[i], ok = ballot.Grant(all[i], term, who, chance.Intn(4) > 0); ok {
				has[term][who][i] = 1
			}
		}
		for term := range has {
			won := 0
			for _, from := range has[term] {
				if from[0]+from[1]+from[2]+from[3]+from[4] > 2 {
					won++
				}
			}
			if won > 1 {
				t.Fatalf("%d have more than half of the votes in the term %d", won, term)
			}
			elected += won
		}
	}
	if elected < 100 {
		t.Errorf("only %d were elected", elected)
	}
}

// R4: what is handed in stays as it is, what lies behind its length counts for nothing, and each answer has memory of its own.
func TestMemory(t *testing.T) {
	room := []byte("\x06\x03\x00\x01\x80")
	for n, want := range []bool{false, false, true, false, false, false} {
		b, ok := ballot.Read(room[:n])
		if ok != want || ok && b != (api.Ballot{Term: 6, Vote: 2}) {
			t.Errorf("% x is read as %v, %v", room[:n], b, ok)
		}
	}
	if string(room) != "\x06\x03\x00\x01\x80" {
		t.Errorf("what was handed in became % x", room)
	}
	b := api.Ballot{Term: 300, Vote: 2}
	first, second := ballot.Bytes(b), ballot.Bytes(b)
	clear(first[:cap(first)])
	if string(second) != "\xac\x02\x03" || string(ballot.Bytes(b)) != "\xac\x02\x03" || b != (api.Ballot{Term: 300, Vote: 2}) {
		t.Errorf("% x, %v", second, b)
	}
	read, _ := ballot.Read(second)
	clear(second[:cap(second)])
	if read != b {
		t.Errorf("writing over what was read made %v", read)
	}
}
