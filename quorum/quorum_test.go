package quorum_test

import (
	"bytes"
	"encoding/binary"
	"maps"
	"math"
	"math/bits"
	"math/rand"
	"slices"
	"testing"

	"dotterel/api"
	"dotterel/quorum"
)

// far are numbers that no member has: around those that are, at the edges of their kind, and like some that are when they are cut to fewer bits.
var far = []int{math.MinInt, math.MinInt + 1, math.MinInt + 3, -1 << 62, -1<<32 + 1, -1 << 32, -256, -255, -16, -15, -2, -1, 16, 17, 31, 32, 255, 256, 257, 1 << 16, 1 << 31, 1 << 32, 1<<32 + 1, 1<<32 + 15, 1 << 62, math.MaxInt - 1, math.MaxInt}

// sets are all rows of members that are right, by their bits.
func sets(visit func(set int, members []int)) {
	for set := 1; set < 1<<16; set++ {
		if bits.OnesCount(uint(set)) <= 7 {
			visit(set, of(set))
		}
	}
}

// of are the numbers of a set, rising.
func of(set int) []int {
	l := []int{}
	for id := range 64 {
		if set>>id&1 == 1 {
			l = append(l, id)
		}
	}
	return l
}

// wrong are rows of members that aren't right, each for a reason of its own.
func wrong() [][]int {
	rows := [][]int{
		nil, {}, {0, 0}, {15, 15}, {1, 0}, {15, 0}, {3, 1}, {1, 1}, {1, 2, 2}, {1, 1, 2}, {0, 1, 3, 2}, {1, 0, 2, 3}, {0, 2, 1, 3}, {0, 1, 0},
		{0, 1, 2, 3, 4, 5, 6, 7}, {8, 9, 10, 11, 12, 13, 14, 15}, of(1<<16 - 1), make([]int, 8), {0, 1, 2, 3, 4, 5, 5}, {6, 5, 4, 3, 2, 1, 0}, make([]int, 5000),
	}
	for _, id := range far {
		rows = append(rows, []int{id}, []int{id, 3}, []int{3, id}, []int{0, id, 15}, []int{0, 1, 2, 3, 4, 5, id}, []int{id, 1, 2, 3, 4, 5, 6})
	}
	return rows
}

// rightAsWorded tells the chapter's words one behind the other.
func rightAsWorded(members []int) bool {
	times := map[int]int{}
	for i, id := range members {
		times[id]++
		if id < 0 || id > 15 || times[id] > 1 || i > 0 && id < members[i-1] {
			return false
		}
	}
	return len(members) >= 1 && len(members) <= 7
}

// wonAsWorded counts the members that are among yes; more than half are enough.
func wonAsWorded(members, yes []int) bool {
	many := 0
	for _, id := range members {
		if slices.Contains(yes, id) {
			many++
		}
	}
	return rightAsWorded(members) && 2*many > len(members)
}

// indexAsWorded tries each number that is there: which is the greatest that more than half have, at least?
func indexAsWorded(members []int, match map[int]int) int {
	if !rightAsWorded(members) {
		return 0
	}
	best := math.MinInt
	for _, id := range members {
		many := 0
		for _, other := range members {
			if match[other] >= match[id] {
				many++
			}
		}
		if 2*many > len(members) {
			best = max(best, match[id])
		}
	}
	return best
}

// bytesAsWorded are the fields, made apart from the program.
func bytesAsWorded(members []int) []byte {
	b := binary.AppendUvarint(nil, uint64(len(members)))
	for _, id := range members {
		b = binary.AppendUvarint(b, uint64(max(id, 0)))
	}
	return b
}

// P15.1: members that are right, all of them, and rows that aren't.
func TestRight(t *testing.T) {
	many := 0
	sets(func(set int, members []int) {
		many++
		if !quorum.Right(members) {
			t.Fatalf("%v isn't right", members)
		}
	})
	if many != 26332 {
		t.Fatalf("%d were tried", many)
	}
	for set := 1; set < 1<<16; set++ {
		if n := bits.OnesCount(uint(set)); quorum.Right(of(set)) != (n <= 7) {
			t.Fatalf("Right(%v) is %v", of(set), n > 7)
		}
	}
	for _, members := range wrong() {
		if quorum.Right(members) {
			t.Errorf("%v is right", members)
		}
	}
}

// P15.1: each row of up to four numbers at the edges, in every order.
func TestRightShortRows(t *testing.T) {
	ids := []int{math.MinInt, -1, 0, 1, 2, 14, 15, 16, 1<<32 + 3, math.MaxInt}
	var longer func(row []int)
	longer = func(row []int) {
		if got, want := quorum.Right(row), rightAsWorded(row); got != want {
			t.Fatalf("Right(%v) is %v", row, got)
		}
		for _, id := range ids {
			if len(row) < 4 {
				longer(append(row[:len(row):len(row)], id))
			}
		}
	}
	longer(nil)
}

// P15.1: more than half, and no more than needed.
func TestMajority(t *testing.T) {
	for n, want := range []int{0, 1, 2, 2, 3, 3, 4, 4, 5} {
		if got := quorum.Majority(n); got != want {
			t.Errorf("Majority(%d) is %d, not %d", n, got, want)
		}
	}
	for n := 1; n < 3000; n++ {
		if m := quorum.Majority(n); 2*m <= n || 2*(m-1) > n {
			t.Fatalf("Majority(%d) is %d", n, m)
		}
	}
	for n, want := range map[int]int{math.MaxInt: 1 << 62, math.MaxInt - 1: 1 << 62, math.MaxInt - 2: 1<<62 - 1, 1 << 62: 1<<61 + 1, 1 << 32: 1<<31 + 1, 1<<32 + 1: 1<<31 + 1} {
		if got := quorum.Majority(n); got != want {
			t.Errorf("Majority(%d) is %d, not %d", n, got, want)
		}
	}
	for _, n := range []int{-1, -2, -3, -7, -1 << 31, -1 << 32, -1<<32 + 3, math.MinInt + 1, math.MinInt} {
		if got := quorum.Majority(n); got != 0 {
			t.Errorf("Majority(%d) is %d", n, got)
		}
	}
}

// P15.1: yes in any order, several times, and with those who aren't members.
func TestWon(t *testing.T) {
	for _, x := range []struct {
		members, yes []int
		want         bool
	}{
		{[]int{4}, []int{4}, true}, {[]int{4}, nil, false}, {[]int{4}, []int{3, 5}, false}, {[]int{0}, []int{0}, true}, {[]int{0}, nil, false},
		{[]int{1, 2}, []int{2, 1}, true}, {[]int{1, 2}, []int{1, 1}, false}, {[]int{1, 2}, []int{2, 3}, false}, {[]int{0, 15}, []int{15, 0}, true},
		{[]int{1, 3, 5}, []int{5, 3}, true}, {[]int{1, 3, 5}, []int{5, 1, 5}, true}, {[]int{1, 3, 5}, []int{5, 5, 5, 5}, false}, {[]int{1, 3, 5}, []int{5, 0, 2, 4, 6}, false},
		{[]int{1, 3, 5}, []int{9, 5, -1, 5, 1 << 40, 1}, true}, {[]int{1, 3, 5}, []int{1, 1<<32 + 3, 1<<32 + 5, 256 + 3, -3}, false},
		{[]int{1, 2, 3, 4}, []int{1, 4}, false}, {[]int{1, 2, 3, 4}, []int{4, 1, 2}, true}, {[]int{1, 2, 3, 4}, []int{4, 1, 4, 1, 4}, false},
		{[]int{0, 1, 2, 3, 4, 5, 6}, []int{6, 0, 3, 5}, true}, {[]int{0, 1, 2, 3, 4, 5, 6}, []int{6, 0, 3}, false}, {[]int{0, 1, 2, 3, 4, 5, 6}, []int{6, 0, 3, 7, 8, 9}, false},
	} {
		if got := quorum.Won(x.members, x.yes); got != x.want {
			t.Errorf("Won(%v, %v) is %v", x.members, x.yes, got)
		}
	}
}

// P15.1: all rows of members up to 7, and all who may say yes, in an order by chance and some of them again.
func TestWonAsWorded(t *testing.T) {
	chance := rand.New(rand.NewSource(151))
	for set := range 1 << 8 {
		members := of(set)
		for yes := range 1 << 8 {
			l := append(of(yes), of(yes&chance.Intn(1<<8))...)
			chance.Shuffle(len(l), func(i, j int) { l[i], l[j] = l[j], l[i] })
			if got, want := quorum.Won(members, l), wonAsWorded(members, l); got != want {
				t.Fatalf("Won(%v, %v) is %v", members, l, got)
			}
		}
	}
}

// P15.1: members that aren't right have won nothing, and have no index, whatever is said and whatever they have.
func TestWrongMembers(t *testing.T) {
	for _, members := range wrong() {
		match := map[int]int{}
		for _, id := range members {
			match[id] = 9
		}
		for id := range 16 {
			match[id] = 9
		}
		for _, yes := range [][]int{nil, members, of(1<<16 - 1), far, append(of(1<<16-1), far...)} {
			if quorum.Won(members, yes) {
				t.Errorf("Won(%v, %v)", members, yes)
			}
		}
		if got := quorum.Index(members, match); got != 0 {
			t.Errorf("Index(%v) is %d", members, got)
		}
	}
}

// The chapter's example.
func TestExample(t *testing.T) {
	if got := quorum.Index([]int{0, 1, 2}, map[int]int{0: 5, 1: 3, 2: 4}); got != 4 {
		t.Fatal(got)
	}
}

// P15.1: what a majority has, at least; who isn't there has 0, and who isn't a member counts for nothing.
func TestIndex(t *testing.T) {
	const most, least = math.MaxInt, math.MinInt
	for _, x := range []struct {
		members []int
		match   map[int]int
		want    int
	}{
		{[]int{4}, map[int]int{4: 7}, 7}, {[]int{4}, map[int]int{4: 0}, 0}, {[]int{4}, map[int]int{3: 7}, 0}, {[]int{4}, nil, 0}, {[]int{4}, map[int]int{4: -7}, -7},
		{[]int{1, 2}, map[int]int{1: 3, 2: 8}, 3}, {[]int{1, 2}, map[int]int{1: 8, 2: 3}, 3}, {[]int{1, 2}, map[int]int{2: 8}, 0}, {[]int{1, 2}, map[int]int{2: -8}, -8},
		{[]int{1, 3, 5}, map[int]int{1: 9, 3: 2}, 2}, {[]int{1, 3, 5}, map[int]int{5: 9}, 0}, {[]int{1, 3, 5}, map[int]int{1: 9, 2: 9, 4: 9, 16: 9, -1: 9}, 0},
		{[]int{1, 3, 5}, map[int]int{1: 4, 3: 4, 5: 4}, 4}, {[]int{1, 3, 5}, map[int]int{1: 4, 3: 4, 5: 9}, 4}, {[]int{1, 3, 5}, map[int]int{1: 9, 3: 4, 5: 9}, 9},
		{[]int{1, 3, 5}, map[int]int{1: -4, 3: -9}, -4}, {[]int{1, 3, 5}, map[int]int{1: -4}, 0}, {[]int{1, 3, 5}, map[int]int{1: -4, 3: -9, 5: -6}, -6},
		{[]int{0, 1, 2, 3}, map[int]int{0: 4, 1: 3, 2: 2, 3: 1}, 2}, {[]int{0, 1, 2, 3}, map[int]int{0: 1, 1: 1, 2: 2, 3: 2}, 1}, {[]int{0, 1, 2, 3}, map[int]int{0: 1, 1: 2, 2: 2, 3: 2}, 2},
		{[]int{2, 3, 5, 7, 11}, map[int]int{2: 10, 3: 50, 5: 20, 7: 40, 11: 30}, 30}, {[]int{2, 3, 5, 7, 11}, map[int]int{2: 10, 3: 10, 5: 10}, 10}, {[]int{2, 3, 5, 7, 11}, map[int]int{2: 10, 3: 10}, 0},
		{[]int{0, 1, 2, 3, 4, 5, 6}, map[int]int{0: 7, 1: 6, 2: 5, 3: 4, 4: 3, 5: 2, 6: 1}, 4},
		{[]int{0, 1, 2}, map[int]int{0: most, 1: most, 2: least}, most}, {[]int{0, 1, 2}, map[int]int{0: most, 1: least, 2: least}, least}, {[]int{0, 1, 2}, map[int]int{0: most, 1: most - 1, 2: least}, most - 1},
		{[]int{0, 1, 2}, map[int]int{0: 1 << 32, 1: 1<<32 + 1, 2: 2}, 1 << 32}, {[]int{0, 1, 2}, map[int]int{0: most, 2: least}, 0},
	} {
		if got := quorum.Index(x.members, x.match); got != x.want {
			t.Errorf("Index(%v, %v) is %d, not %d", x.members, x.match, got, x.want)
		}
	}
}

// P15.1: all rows of up to 5 members with all numbers of a few, and longer ones by chance; the answer is one, however often it is asked for.
func TestIndexAsWorded(t *testing.T) {
	check := func(members []int, match map[int]int) {
		want := indexAsWorded(members, match)
		for range 2 {
			if got := quorum.Index(members, match); got != want {
				t.Fatalf("Index(%v, %v) is %d, not %d", members, match, got, want)
			}
		}
	}
	for n := 1; n <= 5; n++ {
		members := []int{1, 4, 5, 9, 15}[:n]
		for row := range int(math.Pow(5, float64(n))) {
			match := map[int]int{0: 9, 2: 9, 16: 9}
			for _, id := range members {
				// 4 of 5 have a number, from -1 to 2; the others aren't there.
				if row%5 < 4 {
					match[id] = row%5 - 1
				}
				row /= 5
			}
			check(members, match)
		}
	}
	chance := rand.New(rand.NewSource(152))
	sets(func(set int, members []int) {
		match := map[int]int{}
		for range chance.Intn(20) {
			match[chance.Intn(18)-1] = chance.Intn(12) - 2
		}
		check(members, match)
	})
}

// P15.1: Index is what a majority has, and no majority has more: Won tells the same of those who have it.
func TestIndexAndWon(t *testing.T) {
	chance := rand.New(rand.NewSource(153))
	sets(func(set int, members []int) {
		match := map[int]int{}
		for id := range 16 {
			match[id] = chance.Intn(9)
		}
		has := func(n int) []int {
			l := []int{}
			for id, m := range match {
				if m >= n {
					l = append(l, id)
				}
			}
			return l
		}
		if i := quorum.Index(members, match); !quorum.Won(members, has(i)) || quorum.Won(members, has(i+1)) {
			t.Fatalf("Index(%v, %v) is %d", members, match, i)
		}
	})
}

// changeAsWorded is what the chapter's words ask of a Change of right members, told by their bits.
func changeAsWorded(set int, add bool, id int) (int, api.Errno) {
	if id < 0 || id > 15 {
		return 0, api.ErrArg
	}
	among, many := set>>id&1 == 1, bits.OnesCount(uint(set))
	switch {
	case add && among:
		return 0, api.ErrThere
	case add && many == 7:
		return 0, api.ErrFull
	case add:
		return set | 1<<id, api.OK
	case !among:
		return 0, api.ErrNone
	case many == 1:
		return 0, api.ErrState
	}
	return set &^ (1 << id), api.OK
}

// P15.2: each change of all right members, and what is then are right members again.
func TestChange(t *testing.T) {
	sets(func(set int, members []int) {
		for _, add := range []bool{true, false} {
			for id := -1; id <= 16; id++ {
				want, err := changeAsWorded(set, add, id)
				got, e := quorum.Change(members, add, id)
				if e != err || !slices.Equal(got, of(want)) || quorum.Right(got) != (e == api.OK) {
					t.Fatalf("Change(%v, %v, %d) is %v, %v, not %v, %v", members, add, id, got, e, of(want), err)
				}
			}
		}
	})
}

// P15.2: a change, and its contrary, are nothing.
func TestChangeBack(t *testing.T) {
	sets(func(set int, members []int) {
		for id := range 16 {
			add := !slices.Contains(members, id)
			there, e := quorum.Change(members, add, id)
			if e != api.OK {
				continue
			}
			if back, e := quorum.Change(there, !add, id); e != api.OK || !slices.Equal(back, members) {
				t.Fatalf("from %v to %v, and back: %v, %v", members, there, back, e)
			}
		}
	})
}

// P15.2: ErrArg is looked for first: also where the number is among them, or isn't, or there is no room, or none would be left.
func TestChangeOfWrongOnes(t *testing.T) {
	refused := func(members []int, id int) {
		t.Helper()
		for _, add := range []bool{true, false} {
			if l, e := quorum.Change(members, add, id); e != api.ErrArg || len(l) != 0 {
				t.Fatalf("Change(%v, %v, %d) is %v, %v", members, add, id, l, e)
			}
		}
	}
	for _, members := range wrong() {
		for _, id := range append([]int{0, 1, 2, 3, 9, 15}, far...) {
			refused(members, id)
		}
	}
	for _, members := range [][]int{{0}, {15}, {0, 15}, {1, 3, 5}, {0, 1, 2, 3, 4, 5, 6}, {9, 10, 11, 12, 13, 14, 15}} {
		for _, id := range far {
			refused(members, id)
		}
	}
}

// P15.2: the errors, where two of them hold: who is among seven is there, and who isn't one's only member is none.
func TestChangeErrors(t *testing.T) {
	seven := []int{0, 1, 2, 3, 4, 5, 15}
	for _, x := range []struct {
		members []int
		add     bool
		id      int
		want    api.Errno
	}{
		{seven, true, 4, api.ErrThere}, {seven, true, 6, api.ErrFull}, {seven, false, 6, api.ErrNone}, {seven, false, 15, api.OK},
		{[]int{2}, false, 2, api.ErrState}, {[]int{2}, false, 3, api.ErrNone}, {[]int{2}, true, 2, api.ErrThere}, {[]int{2}, true, 3, api.OK},
		{seven[:6], true, 6, api.OK}, {seven[:2], false, 0, api.OK}, {seven[:1], false, 0, api.ErrState},
	} {
		if l, e := quorum.Change(x.members, x.add, x.id); e != x.want || (len(l) == 0) != (e != api.OK) {
			t.Errorf("Change(%v, %v, %d) is %v, %v, not %v", x.members, x.add, x.id, l, e, x.want)
		}
	}
}

// P15.2: the fields of members, read back.
func TestBytes(t *testing.T) {
	for _, x := range []struct {
		members []int
		want    string
	}{
		{[]int{0}, "\x01\x00"}, {[]int{15}, "\x01\x0f"}, {[]int{0, 9}, "\x02\x00\x09"}, {[]int{1, 3, 5}, "\x03\x01\x03\x05"},
		{[]int{0, 1, 2, 3, 4, 5, 6}, "\x07\x00\x01\x02\x03\x04\x05\x06"}, {[]int{9, 10, 11, 12, 13, 14, 15}, "\x07\x09\x0a\x0b\x0c\x0d\x0e\x0f"},
	} {
		if got := quorum.Bytes(x.members); string(got) != x.want {
			t.Errorf("Bytes(%v) is % x", x.members, got)
		}
	}
	sets(func(set int, members []int) {
		b := quorum.Bytes(members)
		if !bytes.Equal(b, bytesAsWorded(members)) {
			t.Fatalf("Bytes(%v) is % x", members, b)
		}
		if got, ok := quorum.Read(b); !ok || !slices.Equal(got, members) {
			t.Fatalf("Bytes(%v) is read as %v, %v", members, got, ok)
		}
	})
}

// P15.2: the fields of members that aren't right are told too, but there are no right ones whose Bytes they are.
func TestBytesOfWrongOnes(t *testing.T) {
	for _, members := range wrong() {
		b := quorum.Bytes(members)
		if !bytes.Equal(b, bytesAsWorded(members)) {
			t.Fatalf("Bytes(%v) is % x", members, b)
		}
		// A number below 0 is written as 0, and that may be right.
		if got, ok := quorum.Read(b); ok && !bytes.Equal(quorum.Bytes(got), b) || ok && slices.Min(members) >= 0 {
			t.Fatalf("% x, of %v, is read as %v", b, members, got)
		}
	}
	if got := quorum.Bytes([]int{300, -5, 128}); string(got) != "\x03\xac\x02\x00\x80\x01" {
		t.Errorf("% x", got)
	}
}

// mustNotRead wants b to be the Bytes of no right members.
func mustNotRead(t *testing.T, b []byte) {
	t.Helper()
	if l, ok := quorum.Read(b); ok || len(l) != 0 {
		t.Fatalf("% x is read as %v, %v", b, l, ok)
	}
}

// P15.2: bytes that are cut short, or have more behind them, or write a number in another way, are none.
func TestReadOfOthers(t *testing.T) {
	sets(func(set int, members []int) {
		b := quorum.Bytes(members)
		for n := range b {
			mustNotRead(t, b[:n])
		}
		mustNotRead(t, append(b[:len(b):len(b)], 0))
		mustNotRead(t, append(b[:len(b):len(b)], 15))
		if bits.OnesCount(uint(set)) > 3 {
			return
		}
		for i := range b {
			long := append(append(append([]byte{}, b[:i]...), b[i]|0x80, 0), b[i+1:]...)
			mustNotRead(t, long)
			high := append(append(append([]byte{}, b[:i]...), b[i]|0x80, 1), b[i+1:]...)
			mustNotRead(t, high)
			// The same number, as its lowest 32 bits, and far above.
			wide := append(append(append([]byte{}, b[:i]...), b[i]|0x80, 0x80, 0x80, 0x80, 0x10), b[i+1:]...)
			mustNotRead(t, wide)
		}
	})
	for _, b := range []string{"", "\x00", "\x00\x00", "\x00\x01\x00", "\x80\x00", "\x01\x10", "\x01\x7f", "\x02\x00\x00", "\x02\x09\x00", "\x02\x00\x10", "\x03\x00\x02\x01", "\x01", "\x02\x00", "\x08\x00\x01\x02\x03\x04\x05\x06\x07", "\x07\x00\x01\x02\x03\x04\x05\x05", "\xff\xff\xff\xff\xff\xff\xff\xff\x7f", "\xff\xff\xff\xff\xff\xff\xff\xff\x7f\x00", "\xff\xff\xff\xff\xff\xff\xff\xff\xff", "\x01\xff\xff\xff\xff\xff\xff\xff\xff\xff\x01"} {
		mustNotRead(t, []byte(b))
	}
}

// P15.2: all rows of up to three bytes, and longer ones by chance: what is read has just these bytes, and what has them is read.
func TestReadRows(t *testing.T) {
	rows := map[string][]int{}
	sets(func(set int, members []int) { rows[string(bytesAsWorded(members))] = members })
	check := func(b []byte) {
		want, there := rows[string(b)]
		if got, ok := quorum.Read(b); ok != there || !slices.Equal(got, want) {
			t.Fatalf("% x is read as %v, %v, not %v, %v", b, got, ok, want, there)
		}
	}
	check(nil)
	for x := range 256 {
		check([]byte{byte(x)})
		for y := range 256 {
			check([]byte{byte(x), byte(y)})
			for z := range 40 {
				check([]byte{byte(x), byte(y), byte(z)})
				check([]byte{byte(x), byte(y), byte(z + 120)})
			}
		}
	}
	chance := rand.New(rand.NewSource(154))
	for range 200000 {
		b := make([]byte, 1+chance.Intn(9))
		for i := range b {
			b[i] = byte(chance.Intn(18))
		}
		if chance.Intn(2) == 0 {
			b[0] = byte(len(b) - 1)
			slices.Sort(b[1:])
		}
		check(b)
	}
}

// P15.3: no two majorities of the same members, who may say yes with whoever else, are apart: whoever isn't among one is too few.
func TestMajoritiesOfOne(t *testing.T) {
	for set := 1; set < 1<<8; set++ {
		members := of(set)
		for yes := range 1 << 8 {
			if quorum.Won(members, of(yes)) && quorum.Won(members, of(0xff&^yes)) {
				t.Fatalf("of %v both %v and all others are a majority", members, of(yes))
			}
		}
		// All of them are one, so that something was tried.
		if len(members) <= 7 && !quorum.Won(members, members) {
			t.Fatalf("%v are no majority of themselves", members)
		}
	}
}

// P15.3: nor are two of members that a Change parts, whichever comes or goes.
func TestMajoritiesOfTwo(t *testing.T) {
	changes := 0
	for set := 1; set < 1<<8; set++ {
		members := of(set)
		for id := range 8 {
			for _, add := range []bool{true, false} {
				changed, e := quorum.Change(members, add, id)
				if e != api.OK {
					continue
				}
				changes++
				for yes := range 1 << 8 {
					if quorum.Won(members, of(yes)) && quorum.Won(changed, of(0xff&^yes)) {
						t.Fatalf("%v is a majority of %v, and all others of %v", of(yes), members, changed)
					}
				}
			}
		}
	}
	if changes < 1000 {
		t.Fatalf("%d changes were tried", changes)
	}
}

// P15.3: what a majority has is no less than what each of another majority has, also behind a Change: some one has both.
func TestIndexesMeet(t *testing.T) {
	chance := rand.New(rand.NewSource(155))
	sets(func(set int, members []int) {
		id := chance.Intn(16)
		changed, e := quorum.Change(members, !slices.Contains(members, id), id)
		if e != api.OK {
			changed = members
		}
		match := map[int]int{}
		for id := range 16 {
			match[id] = chance.Intn(6)
		}
		// Who has less than the index of the one members can't be a majority of the others.
		index := quorum.Index(members, match)
		lack := []int{}
		for id := range 16 {
			if match[id] < index {
				lack = append(lack, id)
			}
		}
		if quorum.Won(changed, lack) {
			t.Fatalf("%v, of whom %v lack %d, which %v have", changed, lack, index, members)
		}
	})
}

// roomy is l with room behind its length, filled with a number.
func roomy(l []int, fill int) []int {
	r := append(slices.Clone(l), slices.Repeat([]int{fill}, 9)...)
	return r[:len(l)]
}

// R4: what is handed in stays as it is, also behind its length, and what lies there counts for nothing.
func TestHandedIn(t *testing.T) {
	for _, l := range [][]int{{}, {3}, {1, 3}, {1, 3, 5}, {0, 2, 4, 6, 8, 10, 12}, {5, 1, 3}, {1, 1}, {-4, 99}} {
		for _, fill := range []int{14, 15, -1} {
			members, yes := roomy(l, fill), roomy([]int{5, 3, 3}, 1)
			match := map[int]int{1: 3, 3: 9, 5: 1, 7: 2}
			had := maps.Clone(match)
			quorum.Right(members)
			quorum.Won(members, yes)
			quorum.Index(members, match)
			quorum.Bytes(members)
			for id := range 16 {
				quorum.Change(members, true, id)
				quorum.Change(members, false, id)
			}
			if !slices.Equal(members[:len(l)+9], roomy(l, fill)[:len(l)+9]) || !slices.Equal(yes[:12], []int{5, 3, 3, 1, 1, 1, 1, 1, 1, 1, 1, 1}) || !maps.Equal(match, had) {
				t.Fatalf("%v, %v, %v were changed", members[:len(l)+9], yes[:12], match)
			}
		}
	}
	b := []byte{2, 1, 3, 4, 5}
	if l, ok := quorum.Read(b[:3]); !ok || !slices.Equal(l, []int{1, 3}) || string(b) != "\x02\x01\x03\x04\x05" {
		t.Fatal(l, ok, b)
	}
	mustNotRead(t, b[:2])
}

// R4: what is answered has memory of its own, all that it has room for.
func TestAnswered(t *testing.T) {
	spoil := func(l []int) {
		l = l[:cap(l)]
		for i := range l {
			l[i] = 77
		}
	}
	members := []int{1, 3, 5}
	more, _ := quorum.Change(members, true, 4)
	again, _ := quorum.Change(members, true, 4)
	fewer, _ := quorum.Change(more, false, 5)
	spoil(more)
	if !slices.Equal(members, []int{1, 3, 5}) || !slices.Equal(again, []int{1, 3, 4, 5}) || !slices.Equal(fewer, []int{1, 3, 4}) {
		t.Fatal(members, again, fewer)
	}
	spoil(fewer)
	fewer, _ = quorum.Change(members, false, 1)
	spoil(fewer)
	b := quorum.Bytes(members)
	l, _ := quorum.Read(b)
	spoil(l)
	if !slices.Equal(members, []int{1, 3, 5}) || string(b) != "\x03\x01\x03\x05" {
		t.Fatal(members, b)
	}
	clear(b[:cap(b)])
	if got := quorum.Bytes(members); string(got) != "\x03\x01\x03\x05" {
		t.Fatal(got)
	}
}

// R1: long lists are taken too.
func TestLong(t *testing.T) {
	long := make([]int, 1<<20)
	for i := range long {
		long[i] = i
	}
	if quorum.Right(long) || quorum.Won(long, long) || quorum.Index(long, nil) != 0 {
		t.Fatal("a million members")
	}
	if !quorum.Won([]int{1, 3, 5}, long) || quorum.Won([]int{1, 3, 5}, long[4:]) || !quorum.Won([]int{1, 3, 5}, append(long[4:], 3)) {
		t.Fatal("a million who say yes")
	}
	b := quorum.Bytes(long)
	if !bytes.Equal(b, bytesAsWorded(long)) {
		t.Fatal("bytes")
	}
	mustNotRead(t, b)
	mustNotRead(t, make([]byte, 1<<20))
	if l, e := quorum.Change(long, false, 3); e != api.ErrArg || len(l) != 0 {
		t.Fatal(e)
	}
}
