package dups_test

import (
	"bytes"
	"math"
	"math/rand"
	"slices"
	"testing"

	"dotterel/api"
	"dotterel/dups"
	"dotterel/pack"
)

const most = 1 << 40

// Numbers that are outside, some of them within when they are cut to fewer bits.
var (
	noClients = []int{
		math.MinInt, math.MinInt + 1, math.MinInt + 7, -1 << 40, -1 << 32, -1<<32 + 3, -256, -255, -128, -2, -1,
		256, 257, 511, 512, 1 << 16, 1<<31 - 1, 1 << 32, 1<<32 + 3, 1 << 62, math.MaxInt - 255, math.MaxInt,
	}
	noNums = []int{
		math.MinInt, math.MinInt + 1, math.MinInt + 7, -1 << 40, -1<<40 + 5, -1 << 32, -1<<32 + 5, -5, -1,
		0, most + 1, most + 2, most + 5, 1<<41 - 1, 1 << 41, 1 << 62, math.MaxInt - 5, math.MaxInt,
	}
	noErrs = []api.Errno{
		math.MinInt, math.MinInt + 1, -1 << 32, -1<<32 + 3, -256, -64, -63, -1,
		64, 65, 127, 128, 255, 256, 1 << 32, 1<<32 + 3, 1 << 62, math.MaxInt - 63, math.MaxInt,
	}
)

// done is a client's last operation, as the document words it.
type done struct {
	client, num int
	err         api.Errno
}

// plain is a table, as the document words it: a list of clients, rising.
type plain []done

func (p plain) place(client int) (int, bool) {
	return slices.BinarySearchFunc(p, client, func(d done, client int) int { return d.client - client })
}

func (p plain) check(client, num int) (int, api.Errno) {
	for _, d := range p {
		if d.client != client {
			continue
		}
		if d.num == num {
			return api.DupSame, d.err
		}
		if d.num > num {
			return api.DupOld, 0
		}
	}
	return api.DupFresh, 0
}

func (p *plain) put(client, num int, e api.Errno) api.Errno {
	if client < 0 || client > 255 || num < 1 || num > most || e < 0 || e > 63 {
		return api.ErrArg
	}
	at, there := p.place(client)
	if there {
		if (*p)[at].num >= num {
			return api.ErrOld
		}
		(*p)[at] = done{client, num, e}
		return api.OK
	}
	if len(*p) == 32 {
		return api.ErrFull
	}
	*p = slices.Insert(*p, at, done{client, num, e})
	return api.OK
}

func (p plain) clients() []int {
	var ids []int
	for _, d := range p {
		ids = append(ids, d.client)
	}
	return ids
}

// bytes are fields, whatever p is: also lists that no table has.
func (p plain) bytes() []byte {
	b := field(nil, len(p))
	for _, d := range p {
		b = field(field(field(b, d.client), d.num), int(d.err))
	}
	return b
}

// field is b, and behind it a number as layer 3 words it.
func field(b []byte, n int) []byte {
	for n > 127 {
		b = append(b, byte(n%128)+128)
		n /= 128
	}
	return append(b, byte(n))
}

func mustPut(t *testing.T, x *dups.Table, client, num int, e api.Errno) {
	t.Helper()
	if got := x.Put(client, num, e); got != api.OK {
		t.Fatalf("Put(%d, %d, %d) is %v", client, num, int(e), got)
	}
}

func mustCheck(t *testing.T, x *dups.Table, client, num, kind int, e api.Errno) {
	t.Helper()
	if k, got := x.Check(client, num); k != kind || got != e {
		t.Fatalf("Check(%d, %d) is %d, %v, not %d, %v", client, num, k, got, kind, e)
	}
}

// mustHave holds all that a table tells against what it should have.
func mustHave(t *testing.T, x *dups.Table, want plain) {
	t.Helper()
	if got := x.Clients(); !slices.Equal(got, want.clients()) {
		t.Fatalf("Clients are %v, not %v", got, want.clients())
	}
	if got := x.Bytes(); !bytes.Equal(got, want.bytes()) {
		t.Fatalf("Bytes are % x, not % x", got, want.bytes())
	}
	for client := -1; client <= 256; client++ {
		nums := []int{-1, 0, 1, 2, most, most + 1}
		if at, there := want.place(client); there {
			nums = append(nums, want[at].num-1, want[at].num, want[at].num+1)
		}
		for _, num := range nums {
			kind, e := want.check(client, num)
			mustCheck(t, x, client, num, kind, e)
		}
	}
}

// mustLoad calls Load, which must answer a table.
func mustLoad(t *testing.T, b []byte) dups.Table {
	t.Helper()
	x, ok := dups.Load(b)
	if !ok {
		t.Fatalf("no table has the Bytes % x", b)
	}
	return x
}

// mustRefuse calls Load, which must answer false, and nothing beside it.
func mustRefuse(t *testing.T, b []byte) {
	t.Helper()
	if x, ok := dups.Load(b); ok || len(x.Clients()) != 0 || !bytes.Equal(x.Bytes(), []byte{0}) {
		t.Fatalf("Load of % x is % x, %v", b, x.Bytes(), ok)
	}
}

// mustBe puts all of p into a new table, in any order.
func mustBe(t *testing.T, p plain) dups.Table {
	t.Helper()
	var x dups.Table
	for _, i := range rand.New(rand.NewSource(int64(len(p)))).Perm(len(p)) {
		mustPut(t, &x, p[i].client, p[i].num, p[i].err)
	}
	return x
}

// full are 32 clients, each with another number and error, from a client on.
func full(from, step int) plain {
	var p plain
	for i := range 32 {
		p = append(p, done{from + i*step, 1 + i*i*i*i*1000003, api.Errno(i * 2)})
	}
	return p
}

// The chapter's example.
func TestExample(t *testing.T) {
	var x dups.Table
	mustPut(t, &x, 1, 5, api.OK)
	mustCheck(t, &x, 1, 5, api.DupSame, api.OK)
	mustCheck(t, &x, 1, 4, api.DupOld, api.OK)
	mustCheck(t, &x, 1, 6, api.DupFresh, api.OK)
}

// P22.1: the zero Table has nobody: whatever is asked is fresh.
func TestNobody(t *testing.T) {
	var x dups.Table
	mustHave(t, &x, nil)
	for _, client := range append([]int{0, 1, 127, 254, 255}, noClients...) {
		for _, num := range append([]int{1, 2, most - 1, most}, noNums...) {
			mustCheck(t, &x, client, num, api.DupFresh, api.OK)
		}
	}
	mustHave(t, &x, nil)
}

// P22.1: of a client that is there: the same, less, more; the error of the same one alone.
func TestCheck(t *testing.T) {
	for _, client := range []int{0, 1, 127, 128, 254, 255} {
		for _, num := range []int{1, 2, 5, 127, 128, 1 << 31, 1 << 32, most - 1, most} {
			for _, e := range []api.Errno{api.OK, api.ErrArg, api.ErrLost, 62, 63} {
				var x dups.Table
				mustPut(t, &x, client, num, e)
				mustHave(t, &x, plain{{client, num, e}})
				for _, less := range []int{math.MinInt, -1 << 40, -num, -1, 0, num / 2, num - 1} {
					mustCheck(t, &x, client, less, api.DupOld, api.OK)
				}
				for _, above := range []int{num + 1, num + 1<<32, most + 1, math.MaxInt} {
					mustCheck(t, &x, client, above, api.DupFresh, api.OK)
				}
				for _, other := range append([]int{client - 1, client + 1}, noClients...) {
					mustCheck(t, &x, other, num, api.DupFresh, api.OK)
				}
			}
		}
	}
}

// P22.1: no number 0, or below it, is the same, or old, of a client that isn't there, also beside those that are.
func TestCheckOfNone(t *testing.T) {
	x := mustBe(t, full(3, 1))
	for _, client := range append([]int{0, 1, 2, 35, 255}, noClients...) {
		for _, num := range append([]int{1, most}, noNums...) {
			mustCheck(t, &x, client, num, api.DupFresh, api.OK)
		}
	}
}

// P22.1: each client, and each error, by itself.
func TestEachClientAndError(t *testing.T) {
	for client := range 256 {
		var x dups.Table
		e := api.Errno(client % 64)
		mustPut(t, &x, client, client+1, e)
		mustHave(t, &x, plain{{client, client + 1, e}})
	}
}

// P22.1: a greater number is the last one from then on, with its error, whatever the one ahead had.
func TestPutAbove(t *testing.T) {
	var x dups.Table
	errs := []api.Errno{api.ErrLost, api.OK, 63, 1, 0, 2}
	for i, num := range []int{1, 2, 3, 128, 1 << 39, most} {
		mustPut(t, &x, 9, num, errs[i])
		mustPut(t, &x, 255, num, 7)
		mustHave(t, &x, plain{{9, num, errs[i]}, {255, num, 7}})
	}
}

// P22.1: what is outside, one thing by itself and all of them.
func TestPutOutside(t *testing.T) {
	for _, p := range []plain{nil, {{3, 5, 1}}, full(0, 1), full(1, 8)} {
		x := mustBe(t, p)
		refuse := func(client, num int, e api.Errno) {
			t.Helper()
			if got := x.Put(client, num, e); got != api.ErrArg {
				t.Fatalf("Put(%d, %d, %d) is %v", client, num, int(e), got)
			}
		}
		for _, client := range noClients {
			refuse(client, 1, api.OK)
			refuse(client, most, 63)
			refuse(client, 0, 64)
		}
		for _, num := range noNums {
			refuse(3, num, api.OK)
			refuse(0, num, 63)
			refuse(200, num, 1)
			refuse(-1, num, 0)
		}
		for _, e := range noErrs {
			refuse(3, most, e)
			refuse(3, 1, e)
			refuse(255, 6, e)
			refuse(256, 0, e)
		}
		mustHave(t, &x, p)
	}
}

// P22.1: what is no greater than the last one, also when it has another error, and when the table is full.
func TestPutOld(t *testing.T) {
	for _, p := range []plain{{{3, 5, 1}}, full(0, 1), full(7, 8), {{0, most, 0}, {255, 1, 63}}} {
		x := mustBe(t, p)
		for _, d := range p {
			for _, num := range []int{d.num, d.num - 1, d.num / 2, 1} {
				for _, e := range []api.Errno{d.err, api.OK, 63} {
					want := api.ErrOld
					if num < 1 {
						want = api.ErrArg
					}
					if got := x.Put(d.client, num, e); got != want {
						t.Fatalf("Put(%d, %d, %d) behind %v is %v", d.client, num, int(e), d, got)
					}
				}
			}
		}
		mustHave(t, &x, p)
	}
}

// P22.1: the 33rd client has no room; those that are there go on.
func TestPutFull(t *testing.T) {
	for _, p := range []plain{full(0, 1), full(224, 1), full(7, 8)} {
		x := mustBe(t, p)
		for client := range 256 {
			if _, there := p.place(client); there {
				continue
			}
			for _, num := range []int{1, most} {
				if got := x.Put(client, num, api.OK); got != api.ErrFull {
					t.Fatalf("Put(%d, %d) is %v", client, num, got)
				}
			}
		}
		mustHave(t, &x, p)
		for i := range p {
			p[i].num, p[i].err = p[i].num+1, api.Errno(63-i)
			mustPut(t, &x, p[i].client, p[i].num, p[i].err)
		}
		mustHave(t, &x, p)
	}
}

// P22.1: clients are rising, in whatever order they came.
func TestClients(t *testing.T) {
	r := rand.New(rand.NewSource(1))
	for n := range 33 {
		var x dups.Table
		ids := r.Perm(256)[:n]
		for _, id := range ids {
			mustPut(t, &x, id, 1+r.Intn(most), api.OK)
		}
		slices.Sort(ids)
		for range 3 {
			if got := x.Clients(); !slices.Equal(got, ids) {
				t.Fatalf("Clients are %v, not %v", got, ids)
			}
		}
	}
}

// P22.2: Bytes spelt out.
func TestBytes(t *testing.T) {
	var x dups.Table
	for _, step := range []struct {
		d    done
		want []byte
	}{
		{done{200, 1, 0}, []byte{1, 200, 1, 1, 0}},
		{done{7, 300, 63}, []byte{2, 7, 0xac, 2, 63, 200, 1, 1, 0}},
		{done{255, most, 19}, []byte{3, 7, 0xac, 2, 63, 200, 1, 1, 0, 255, 1, 128, 128, 128, 128, 128, 32, 19}},
		{done{200, 127, 1}, []byte{3, 7, 0xac, 2, 63, 200, 1, 127, 1, 255, 1, 128, 128, 128, 128, 128, 32, 19}},
		{done{0, 128, 2}, []byte{4, 0, 128, 1, 2, 7, 0xac, 2, 63, 200, 1, 127, 1, 255, 1, 128, 128, 128, 128, 128, 32, 19}},
	} {
		mustPut(t, &x, step.d.client, step.d.num, step.d.err)
		for range 3 {
			if got := x.Bytes(); !bytes.Equal(got, step.want) {
				t.Fatalf("Bytes are % x, not % x", got, step.want)
			}
		}
	}
}

// P22.2: the fields are layer 3's.
func TestFields(t *testing.T) {
	p := full(5, 7)
	x := mustBe(t, p)
	r := pack.Read(x.Bytes())
	if n := r.Num(math.MaxInt); n != 32 {
		t.Fatalf("%d clients", n)
	}
	for _, d := range p {
		if got := (done{r.Num(math.MaxInt), r.Num(math.MaxInt), api.Errno(r.Num(math.MaxInt))}); got != d {
			t.Fatalf("%v, not %v", got, d)
		}
	}
	if e := r.End(); e != api.OK {
		t.Fatalf("behind them: %v", e)
	}
}

// P22.2: Load finds tables of all sizes by their Bytes, and what is found is used as any other.
func TestLoad(t *testing.T) {
	for n := range 33 {
		p := full(2, 8)[:n]
		first := mustBe(t, p)
		x := mustLoad(t, first.Bytes())
		mustHave(t, &x, p)
		for i := range p {
			if e := x.Put(p[i].client, p[i].num, 1); e != api.ErrOld {
				t.Fatalf("the same once more: %v", e)
			}
			p[i].num, p[i].err = p[i].num+3, 11
			mustPut(t, &x, p[i].client, p[i].num, p[i].err)
		}
		want := p.put(0, most, 63)
		if e := x.Put(0, most, 63); e != want {
			t.Fatalf("one more behind %d: %v", n, e)
		}
		mustHave(t, &x, p)
		again := mustLoad(t, x.Bytes())
		mustHave(t, &again, p)
	}
}

// P22.2: the edges of all fields.
func TestLoadEdges(t *testing.T) {
	for _, p := range []plain{
		nil,
		{{0, 1, 0}},
		{{255, most, 63}},
		{{0, most, 63}, {1, 1, 0}},
		{{0, 1, 63}, {255, 1, 0}},
		full(0, 1), full(224, 1),
	} {
		x := mustLoad(t, p.bytes())
		mustHave(t, &x, p)
	}
}

// P22.2: fields that no table has: outside, not rising, doubled.
func TestLoadWrongFields(t *testing.T) {
	for _, p := range []plain{
		{{256, 1, 0}}, {{511, 1, 0}}, {{math.MaxInt, 1, 0}},
		{{3, 0, 0}}, {{3, most + 1, 0}}, {{3, math.MaxInt, 0}},
		{{3, 1, 64}}, {{3, 1, 127}}, {{3, 1, 256}}, {{3, 1, math.MaxInt}},
		{{3, 1, 0}, {1, 1, 0}},
		{{3, 1, 0}, {3, 1, 0}}, {{3, 1, 0}, {3, 2, 0}}, {{0, 2, 0}, {0, 1, 0}},
		{{1, 1, 0}, {2, 1, 0}, {0, 1, 0}},
		{{1, 1, 0}, {9, 1, 0}, {8, 1, 0}, {10, 1, 0}},
		{{1, 1, 0}, {2, 0, 0}}, {{1, 1, 0}, {2, 1, 64}}, {{1, 1, 0}, {256, 1, 0}},
		{{1, 0, 0}, {2, 1, 0}}, {{1, 1, 64}, {2, 1, 0}}, {{256, 1, 0}, {257, 1, 0}},
		append(full(0, 1), done{32, 1, 0}),
	} {
		mustRefuse(t, p.bytes())
	}
	for _, at := range []int{0, 1, 15, 30} {
		p := full(0, 8)
		p[at], p[at+1] = p[at+1], p[at]
		mustRefuse(t, p.bytes())
		p = full(0, 8)
		p[at+1].client = p[at].client
		mustRefuse(t, p.bytes())
	}
}

// P22.2: how many there are, told wrongly.
func TestLoadWrongCount(t *testing.T) {
	for n := range 33 {
		p := full(1, 8)[:n]
		b := p.bytes()
		for count := range 200 {
			if count != n {
				mustRefuse(t, append(field(nil, count), b[1:]...))
			}
		}
		for _, count := range []int{1 << 16, 1 << 32, 1<<32 + n, math.MaxInt - 1, math.MaxInt} {
			mustRefuse(t, append(field(nil, count), b[1:]...))
		}
	}
}

// P22.2: bytes that end early, or go on.
func TestLoadOtherLengths(t *testing.T) {
	mustRefuse(t, nil)
	mustRefuse(t, []byte{})
	for _, p := range []plain{nil, {{200, 300, 1}}, {{0, 1, 0}, {1, 1, 0}}, {{255, most, 63}}, full(100, 2)} {
		b := p.bytes()
		for n := range len(b) {
			mustRefuse(t, b[:n])
			mustRefuse(t, b[:n:n])
		}
		for x := range 256 {
			mustRefuse(t, append(bytes.Clone(b), byte(x)))
		}
		mustRefuse(t, slices.Concat(b, b))
	}
}

// P22.2: numbers that are longer than they need to be, or have no end.
func TestLoadLongNumbers(t *testing.T) {
	for _, b := range [][]byte{
		{0x80, 0}, {0x81, 0, 3, 1, 0}, {1, 0x83, 0, 1, 0}, {1, 3, 0x81, 0, 0}, {1, 3, 1, 0x80, 0},
		{0x80}, {1, 3, 1, 0x80}, bytes.Repeat([]byte{0x80}, 9), bytes.Repeat([]byte{255}, 30),
		slices.Concat([]byte{1, 3}, bytes.Repeat([]byte{255}, 8), []byte{127, 0}),
		slices.Concat([]byte{1, 3}, bytes.Repeat([]byte{255}, 9), []byte{1, 0}),
	} {
		mustRefuse(t, b)
	}
}

// P22.2: any bytes, many of them near to a table's: a table is answered for those alone that are its own.
func TestLoadAny(t *testing.T) {
	r := rand.New(rand.NewSource(22))
	tables := 0
	for range 200000 {
		b := make([]byte, r.Intn(14))
		for i := range b {
			b[i] = byte(r.Intn(256) >> r.Intn(8))
		}
		if len(b) > 0 && r.Intn(3) > 0 {
			b[0] = byte((len(b) - 1) / 3)
		}
		x, ok := dups.Load(b)
		p, right := spelt(b)
		if ok != right {
			t.Fatalf("Load of % x is %v", b, ok)
		}
		if !ok {
			mustRefuse(t, b)
			continue
		}
		tables++
		if !bytes.Equal(x.Bytes(), b) || !slices.Equal(x.Clients(), p.clients()) {
			t.Fatalf("Load of % x is % x", b, x.Bytes())
		}
	}
	if tables < 1000 {
		t.Fatalf("%d tables", tables)
	}
}

// spelt is the table whose bytes b is, by putting together one that has them; false: there is none.
func spelt(b []byte) (plain, bool) {
	var nums []int
	n, unit := 0, 1
	for _, x := range b {
		n += int(x%128) * unit
		unit *= 128
		if x < 128 {
			nums = append(nums, n)
			n, unit = 0, 1
		}
	}
	if len(nums)%3 != 1 {
		return nil, false
	}
	var p plain
	for i := 1; i < len(nums); i += 3 {
		if p.put(nums[i], nums[i+1], api.Errno(nums[i+2])) != api.OK {
			return nil, false
		}
	}
	return p, bytes.Equal(p.bytes(), b)
}

// P22.3: of a client a number is fresh until one as great was put, and never again.
func TestFreshOnce(t *testing.T) {
	r := rand.New(rand.NewSource(3))
	for range 50 {
		var x dups.Table
		greatest := map[int]int{}
		for range 100 {
			client, num := r.Intn(4), r.Intn(60)
			if x.Put(client, num, api.OK) == api.OK {
				greatest[client] = num
			}
			if r.Intn(5) == 0 {
				x = mustLoad(t, x.Bytes())
			}
			for client := range 4 {
				for num := 1; num <= 61; num++ {
					kind, _ := x.Check(client, num)
					if fresh := num > greatest[client]; (kind == api.DupFresh) != fresh {
						t.Fatalf("%d of %d is %d behind %d", num, client, kind, greatest[client])
					}
				}
			}
		}
	}
}

// P22.3: a copy is another table, whichever of the two is changed, and of how many clients they are.
func TestCopies(t *testing.T) {
	for _, p := range []plain{nil, {{3, 5, 1}}, full(1, 3)[:31], full(1, 3)} {
		for _, loaded := range []bool{false, true} {
			for _, d := range []done{{1, 1 << 39, 2}, {200, 7, 9}, {3, 6, 0}} {
				x := mustBe(t, p)
				if loaded {
					x = mustLoad(t, p.bytes())
				}
				y := x
				list := []dups.Table{x, y}
				q := slices.Clone(p)
				want := q.put(d.client, d.num, d.err)
				if e := x.Put(d.client, d.num, d.err); e != want {
					t.Fatalf("Put of %v: %v", d, e)
				}
				mustHave(t, &x, q)
				mustHave(t, &y, p)
				q = slices.Clone(p)
				want = q.put(d.client, d.num+1, 5)
				if e := y.Put(d.client, d.num+1, 5); e != want {
					t.Fatalf("Put of %v: %v", d, e)
				}
				mustHave(t, &y, q)
				mustHave(t, &list[0], p)
				mustHave(t, &list[1], p)
			}
		}
	}
}

// What was refused makes no copy another one: both go on as they would have.
func TestRefusedInCopies(t *testing.T) {
	p := full(0, 1)
	x := mustBe(t, p)
	y := x
	for _, e := range []api.Errno{x.Put(0, 1, 0), x.Put(200, 1, 0), x.Put(0, 0, 0)} {
		if e == api.OK {
			t.Fatal("it was put")
		}
	}
	mustHave(t, &x, p)
	mustHave(t, &y, p)
}

// What was handed in and answered may be written over.
func TestMemory(t *testing.T) {
	p := full(4, 5)
	b := p.bytes()
	room := append(bytes.Clone(b), 9, 9, 9)
	x := mustLoad(t, room[:len(b)])
	if !bytes.Equal(room, append(bytes.Clone(b), 9, 9, 9)) {
		t.Fatal("Load changed what it was handed")
	}
	clear(room)
	mustHave(t, &x, p)
	ids, fields := x.Clients(), x.Bytes()
	clear(ids)
	clear(fields)
	_ = append(ids, 77)
	_ = append(fields, 77)
	mustHave(t, &x, p)
	var none dups.Table
	_ = append(none.Clients(), 1)
	_ = append(none.Bytes(), 1)
	mustHave(t, &none, nil)
}

// All promises: many calls, of several tables that are copied and loaded, against the document's words.
func TestWalk(t *testing.T) {
	r := rand.New(rand.NewSource(220))
	pick := func(within int, outside []int) int {
		if r.Intn(30) == 0 {
			return outside[r.Intn(len(outside))]
		}
		return r.Intn(within)
	}
	for range 40 {
		tables, want := make([]dups.Table, 3), make([]plain, 3)
		clients := 1 + r.Intn(256)
		for range 600 {
			i, k := r.Intn(3), r.Intn(3)
			x := &tables[i]
			switch r.Intn(12) {
			case 0:
				tables[k], want[k] = *x, slices.Clone(want[i])
			case 1:
				tables[k], want[k] = mustLoad(t, x.Bytes()), slices.Clone(want[i])
			case 2:
				client, num := pick(clients, noClients), pick(100, noNums)
				kind, e := want[i].check(client, num)
				mustCheck(t, x, client, num, kind, e)
			default:
				client, num, e := pick(clients, noClients), pick(100, noNums), api.Errno(pick(66, noNums))
				should := want[i].put(client, num, e)
				if got := x.Put(client, num, e); got != should {
					t.Fatalf("Put(%d, %d, %d) is %v, not %v", client, num, int(e), got, should)
				}
			}
			if r.Intn(20) == 0 {
				for i := range tables {
					mustHave(t, &tables[i], want[i])
				}
			}
		}
	}
}
