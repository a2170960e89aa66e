package block_test

import (
	"bytes"
	"encoding/binary"
	"hash/crc32"
	"math"
	"math/rand"
	"slices"
	"testing"

	"dotterel/api"
	"dotterel/block"
	"dotterel/crc"
)

// outside are numbers that are no block of a content, some of them within when they are cut to fewer bits.
var outside = []int{
	math.MinInt, math.MinInt + 1, math.MinInt + 7, -1 << 32, -1<<32 + 3, -1 << 8, -16, -9, -8, -7, -2, -1,
	8, 9, 15, 16, 127, 128, 1 << 8, 1<<8 + 3, 1 << 16, 1<<31 - 1, 1 << 31, 1 << 32, 1<<32 + 3, 1 << 62, math.MaxInt - 7, math.MaxInt,
}

// plain is what a content has, as the document words it: eight blocks, one list each.
type plain [][]byte

func blank() plain {
	var p plain
	for range 8 {
		p = append(p, make([]byte, 16))
	}
	return p
}

// whole is all blocks, one behind the other.
func (p plain) whole() []byte { return slices.Concat(p...) }

// sealed is b, and behind it its sum, the lowest byte first, by another's sum than the program's.
func sealed(b []byte) []byte {
	return binary.LittleEndian.AppendUint32(bytes.Clone(b), crc32.ChecksumIEEE(b))
}

// marked are the bytes of a block, each told from the others of it and from those of other marks near by.
func marked(mark int) []byte {
	b := make([]byte, 16)
	for i := range b {
		b[i] = byte(mark*16 + i + 1)
	}
	return b
}

// filled is a content whose blocks are marked one by one from a mark on, and what it has.
func filled(t *testing.T, mark int) (block.Content, plain) {
	t.Helper()
	var c block.Content
	p := blank()
	for i := range p {
		copy(p[i], marked(mark+i))
		mustWrite(t, &c, i, p[i])
	}
	return c, p
}

func mustWrite(t *testing.T, c *block.Content, i int, b []byte) {
	t.Helper()
	if e := c.Write(i, b); e != api.OK {
		t.Fatalf("Write of block %d: %v", i, e)
	}
}

func mustTrim(t *testing.T, c *block.Content, i int) {
	t.Helper()
	if e := c.Trim(i); e != api.OK {
		t.Fatalf("Trim of block %d: %v", i, e)
	}
}

// mustHave holds all that a content tells against what it should have.
func mustHave(t *testing.T, c *block.Content, want plain) {
	t.Helper()
	for i := range want {
		if b, e := c.Read(i); e != api.OK || !bytes.Equal(b, want[i]) {
			t.Fatalf("block %d is % x, %v, not % x", i, b, e, want[i])
		}
	}
	if got, sum := c.Sum(), crc32.ChecksumIEEE(want.whole()); got != sum {
		t.Fatalf("Sum is %08x, not %08x", got, sum)
	}
	if b := c.Bytes(); !bytes.Equal(b, sealed(want.whole())) {
		t.Fatalf("Bytes are % x, not % x", b, sealed(want.whole()))
	}
}

// mustLoad calls Load, which must answer a content.
func mustLoad(t *testing.T, b []byte) block.Content {
	t.Helper()
	c, ok := block.Load(b)
	if !ok {
		t.Fatalf("no content has the Bytes % x", b)
	}
	return c
}

// mustRefuse calls Load, which must answer false, and nothing beside it.
func mustRefuse(t *testing.T, b []byte) {
	t.Helper()
	if c, ok := block.Load(b); ok || c != (block.Content{}) {
		t.Fatalf("Load of %d bytes % x is %v, %v", len(b), b, c.Bytes(), ok)
	}
}

// The chapter's example.
func TestExample(t *testing.T) {
	var c block.Content
	mustWrite(t, &c, 3, marked(5))
	if c == (block.Content{}) {
		t.Fatal("a content that was written is as at first")
	}
	mustTrim(t, &c, 3)
	mustHave(t, &c, blank())
	if c != (block.Content{}) {
		t.Fatal("a content that was trimmed isn't as at first")
	}
}

// P21.1: at first all blocks are 0, and the sum is the one of 128 bytes of 0.
func TestBlank(t *testing.T) {
	var c block.Content
	mustHave(t, &c, blank())
	if got := c.Sum(); got != 0xc2a8fa9d {
		t.Errorf("Sum is %08x", got)
	}
	if c != (block.Content{}) {
		t.Error("asking changed it")
	}
}

// P21.1: each block by itself, written and written over and trimmed: the others stay as they are.
func TestWriteAndTrim(t *testing.T) {
	for i := range 8 {
		for _, mark := range []int{-1, 0, 8} {
			c, p := block.Content{}, blank()
			if mark >= 0 {
				c, p = filled(t, mark)
			}
			for _, b := range [][]byte{marked(100 + i), marked(90), bytes.Repeat([]byte{255}, 16), make([]byte, 16)} {
				copy(p[i], b)
				mustWrite(t, &c, i, b)
				mustHave(t, &c, p)
			}
			mustWrite(t, &c, i, marked(3))
			clear(p[i])
			for range 2 {
				mustTrim(t, &c, i)
				mustHave(t, &c, p)
			}
		}
	}
}

// P21.1: each byte of each block, of all values.
func TestEachByte(t *testing.T) {
	for i := range 8 {
		for k := range 16 {
			for _, x := range []byte{1, 2, 16, 127, 128, 254, 255} {
				var c block.Content
				p := blank()
				p[i][k] = x
				mustWrite(t, &c, i, p[i])
				mustHave(t, &c, p)
			}
		}
	}
}

// P21.1: where there is no such block, whatever the bytes are.
func TestNoBlock(t *testing.T) {
	c, p := filled(t, 0)
	kept := c
	for _, i := range outside {
		for _, b := range [][]byte{marked(9), nil, marked(9)[:15], make([]byte, 16)} {
			if e := c.Write(i, b); e != api.ErrArg {
				t.Errorf("Write(%d) of %d bytes is %v", i, len(b), e)
			}
		}
		if e := c.Trim(i); e != api.ErrArg {
			t.Errorf("Trim(%d) is %v", i, e)
		}
		if b, e := c.Read(i); e != api.ErrArg || len(b) != 0 {
			t.Errorf("Read(%d) is % x, %v", i, b, e)
		}
	}
	if c != kept {
		t.Error("what was refused changed it")
	}
	mustHave(t, &c, p)
}

// P21.1: bytes that aren't 16, be there room for more behind them or not.
func TestWrongBytes(t *testing.T) {
	c, p := filled(t, 20)
	kept := c
	room := bytes.Repeat([]byte{7}, 300)
	for i := range 8 {
		for n := range 300 {
			if n == 16 {
				continue
			}
			for _, b := range [][]byte{room[:n], room[:n:n], room[300-n:]} {
				if e := c.Write(i, b); e != api.ErrArg {
					t.Fatalf("Write(%d) of %d bytes is %v", i, n, e)
				}
			}
		}
		if e := c.Write(i, nil); e != api.ErrArg {
			t.Fatalf("Write(%d) of nil is %v", i, e)
		}
	}
	if c != kept {
		t.Error("what was refused changed it")
	}
	mustHave(t, &c, p)
}

// P21.1: sums that are known, and that are layer 2's.
func TestSum(t *testing.T) {
	var rising, full block.Content
	for i := range 8 {
		b := make([]byte, 16)
		for k := range b {
			b[k] = byte(i*16 + k)
		}
		mustWrite(t, &rising, i, b)
		mustWrite(t, &full, i, bytes.Repeat([]byte{255}, 16))
	}
	if got := rising.Sum(); got != 0x24650d57 {
		t.Errorf("Sum of 0 to 127 is %08x", got)
	}
	if got := full.Sum(); got != 0x652d544c {
		t.Errorf("Sum of 255 each is %08x", got)
	}
	for mark := range 20 {
		c, p := filled(t, mark)
		if got, want := c.Sum(), crc.Sum(p.whole()); got != want {
			t.Errorf("Sum is %08x, not %08x", got, want)
		}
	}
}

// P21.1: a sum hangs on where the blocks are.
func TestSumOfPlaces(t *testing.T) {
	seen := map[uint32]bool{}
	for i := range 8 {
		for _, b := range [][]byte{marked(1), marked(2), bytes.Repeat([]byte{255}, 16)} {
			var c block.Content
			mustWrite(t, &c, i, b)
			seen[c.Sum()] = true
		}
	}
	if len(seen) != 24 {
		t.Errorf("24 contents have %d sums", len(seen))
	}
}

// P21.2: Bytes are what layer 2 seals; Load finds the content by them, whole.
func TestLoad(t *testing.T) {
	for mark := range 40 {
		c, p := filled(t, mark)
		for i := range 9 {
			b := c.Bytes()
			if len(b) != 132 || !bytes.Equal(b, crc.Seal(p.whole())) {
				t.Fatalf("Bytes are % x", b)
			}
			d := mustLoad(t, b)
			if d != c {
				t.Fatalf("Load of % x has the Bytes % x", b, d.Bytes())
			}
			mustHave(t, &d, p)
			if i < 8 {
				mustTrim(t, &c, i)
				clear(p[i])
			}
		}
	}
}

// P21.2: a content that was loaded is used as any other.
func TestUseOfLoaded(t *testing.T) {
	c, p := filled(t, 3)
	d := mustLoad(t, c.Bytes())
	mustWrite(t, &d, 7, marked(44))
	mustTrim(t, &d, 0)
	mustHave(t, &c, p)
	copy(p[7], marked(44))
	clear(p[0])
	mustHave(t, &d, p)
	again := mustLoad(t, d.Bytes())
	mustHave(t, &again, p)
}

// P21.2: the Bytes of a blank content, spelt out.
func TestBytesOfBlank(t *testing.T) {
	want := append(make([]byte, 128), 0x9d, 0xfa, 0xa8, 0xc2)
	var c block.Content
	if got := c.Bytes(); !bytes.Equal(got, want) {
		t.Errorf("Bytes are % x", got)
	}
	if d := mustLoad(t, want); d != c {
		t.Errorf("Load is % x", d.Bytes())
	}
}

// P21.2: what is shorter or longer is none, also when it is whole by its sum.
func TestLoadOtherLengths(t *testing.T) {
	c, p := filled(t, 11)
	long := slices.Concat(p.whole(), p.whole(), p.whole())
	mustRefuse(t, nil)
	for n := range 300 {
		if n != 128 {
			mustRefuse(t, sealed(long[:n]))
			mustRefuse(t, sealed(make([]byte, n)))
		}
		mustRefuse(t, long[:n])
		mustRefuse(t, make([]byte, n))
	}
	b := c.Bytes()
	for n := range len(b) {
		mustRefuse(t, b[:n])
		mustRefuse(t, b[:n:n])
		mustRefuse(t, b[len(b)-n:])
	}
	mustRefuse(t, append(c.Bytes(), 0))
	mustRefuse(t, append([]byte{0}, c.Bytes()...))
	mustRefuse(t, slices.Concat(b, b))
	mustRefuse(t, sealed(b))
}

// P21.2: what has another sum is none: any bit turned, any two, the sum's bytes in another order.
func TestLoadOtherSums(t *testing.T) {
	for _, mark := range []int{0, 57} {
		c, _ := filled(t, mark)
		b := c.Bytes()
		for at := range len(b) * 8 {
			b[at/8] ^= 1 << (at % 8)
			mustRefuse(t, b)
			for other := at + 1; other < min(at+32, len(b)*8); other++ {
				b[other/8] ^= 1 << (other % 8)
				mustRefuse(t, b)
				b[other/8] ^= 1 << (other % 8)
			}
			b[at/8] ^= 1 << (at % 8)
		}
		slices.Reverse(b[128:])
		mustRefuse(t, b)
		mustRefuse(t, append(bytes.Clone(b[:128]), 0, 0, 0, 0))
	}
	for i := range 132 {
		mustRefuse(t, bytes.Repeat([]byte{byte(i)}, 132))
	}
	var zero block.Content
	swapped := zero.Bytes()
	swapped[0] = 1
	mustRefuse(t, swapped)
}

// P21.2: the blocks of one content behind the sum of another.
func TestLoadMixed(t *testing.T) {
	one, _ := filled(t, 1)
	two, _ := filled(t, 2)
	mustRefuse(t, append(one.Bytes()[:128], two.Bytes()[128:]...))
	mustRefuse(t, append(two.Bytes()[:128], one.Bytes()[128:]...))
	swapped := one.Bytes()
	copy(swapped[16:], one.Bytes()[:16])
	copy(swapped[:16], one.Bytes()[16:32])
	mustRefuse(t, swapped)
}

// P21.2: any bytes: a content is answered for those alone that are its own.
func TestLoadAny(t *testing.T) {
	r := rand.New(rand.NewSource(21))
	for range 20000 {
		b := make([]byte, 124+r.Intn(16))
		r.Read(b)
		if r.Intn(2) == 0 {
			b = sealed(b)
		}
		c, ok := block.Load(b)
		right := len(b) == 132 && bytes.Equal(sealed(b[:128]), b)
		if ok != right || ok && !bytes.Equal(c.Bytes(), b) || !ok && c != (block.Content{}) {
			t.Fatalf("Load of % x is % x, %v", b, c.Bytes(), ok)
		}
	}
}

// P21.3: a copy is another one, whichever of the two is changed.
func TestCopies(t *testing.T) {
	for i := range 8 {
		c, p := filled(t, 30)
		_, q := filled(t, 30)
		copied := c
		list := []block.Content{c, c}
		mustWrite(t, &c, i, marked(77))
		copy(p[i], marked(77))
		mustHave(t, &c, p)
		mustHave(t, &copied, q)
		mustTrim(t, &list[0], i)
		mustHave(t, &list[1], q)
		mustHave(t, &copied, q)
		clear(q[i])
		mustHave(t, &list[0], q)
		mustHave(t, &c, p)
		copied = c
		mustTrim(t, &copied, i)
		mustHave(t, &c, p)
	}
}

// P21.3: a content that is handed on by its value, in whatever, leaves the first one as it is.
func TestHandedOn(t *testing.T) {
	c, p := filled(t, 60)
	func(d block.Content) {
		mustWrite(t, &d, 0, marked(1))
		mustTrim(t, &d, 1)
	}(c)
	byNumber := map[int]block.Content{4: c}
	taken := byNumber[4]
	mustTrim(t, &taken, 2)
	box := interface{}(c)
	boxed := box.(block.Content)
	mustTrim(t, &boxed, 3)
	mustHave(t, &c, p)
	kept := byNumber[4]
	mustHave(t, &kept, p)
	first := box.(block.Content)
	mustHave(t, &first, p)
}

// P21.3: values are the same where all of their blocks are, however they came to be so.
func TestCompared(t *testing.T) {
	c, p := filled(t, 12)
	var d block.Content
	for i := 7; i >= 0; i-- {
		if c == d {
			t.Fatal("contents with other blocks are the same")
		}
		mustWrite(t, &d, i, marked(99))
		mustTrim(t, &d, i)
		mustWrite(t, &d, i, p[i])
	}
	if c != d || c != mustLoad(t, d.Bytes()) {
		t.Error("contents with the same blocks are others")
	}
	for i := range 8 {
		for k := range 16 {
			e := d
			b := bytes.Clone(p[i])
			b[k] ^= 128
			mustWrite(t, &e, i, b)
			if e == c {
				t.Fatalf("byte %d of block %d is not compared", k, i)
			}
		}
	}
	if seen := map[block.Content]int{c: 1, d: 2}; len(seen) != 1 || seen[c] != 2 {
		t.Errorf("as keys they are %d", len(seen))
	}
}

// P21.1, P21.2, with the rule on memory: what is handed in isn't changed, nor kept, nor is what lies behind its length.
func TestNothingHandedInIsKept(t *testing.T) {
	room := append(marked(5), "behind the block"...)
	before := bytes.Clone(room)
	c, p := block.Content{}, blank()
	mustWrite(t, &c, 2, room[:16])
	copy(p[2], marked(5))
	mustTrim(t, &c, 2)
	mustWrite(t, &c, 2, room[:16])
	if !bytes.Equal(room, before) {
		t.Fatalf("what was handed in is %q", room)
	}
	clear(room)
	mustHave(t, &c, p)

	kept := append(c.Bytes(), "behind the bytes"...)
	before = bytes.Clone(kept)
	d := mustLoad(t, kept[:132])
	mustWrite(t, &d, 2, marked(6))
	mustTrim(t, &d, 7)
	if !bytes.Equal(kept, before) {
		t.Fatalf("what was handed in is %q", kept)
	}
	d = mustLoad(t, kept[:132])
	clear(kept)
	mustHave(t, &d, p)
}

// P21.1, P21.2, with the rule on memory: whoever asked may write over what was answered, and add to it.
func TestAnswersAreNew(t *testing.T) {
	c, p := filled(t, 70)
	for i := range 8 {
		one, _ := c.Read(i)
		two, _ := c.Read(i)
		clear(one)
		one = append(one, 1, 2, 3)
		if !bytes.Equal(two, p[i]) {
			t.Fatalf("two answers share memory: % x", two)
		}
		copy(two, one)
		mustHave(t, &c, p)
	}
	one, two := c.Bytes(), c.Bytes()
	clear(one)
	one = append(one[:5], "more"...)
	if !bytes.Equal(two, sealed(p.whole())) || len(one) != 9 {
		t.Fatalf("two answers share memory: % x", two)
	}
	mustHave(t, &c, p)
	read, _ := c.Read(4)
	mustTrim(t, &c, 4)
	if !bytes.Equal(read, p[4]) {
		t.Errorf("what was read became % x", read)
	}
}

// turn makes one call of any kind, also wrong ones, and the same by the document's words.
func turn(t *testing.T, c *block.Content, p plain, r *rand.Rand) {
	t.Helper()
	i, b := r.Intn(12)-2, marked(r.Intn(300))
	if r.Intn(5) == 0 {
		b = make([]byte, r.Intn(33))
	}
	if r.Intn(20) == 0 {
		i = outside[r.Intn(len(outside))]
	}
	within := i >= 0 && i < 8
	switch r.Intn(5) {
	case 0, 1:
		want := api.ErrArg
		if within && len(b) == 16 {
			want = api.OK
			copy(p[i], b)
		}
		if e := c.Write(i, b); e != want {
			t.Fatalf("Write(%d) of %d bytes is %v, not %v", i, len(b), e, want)
		}
	case 2:
		want := api.ErrArg
		if within {
			want = api.OK
			clear(p[i])
		}
		if e := c.Trim(i); e != want {
			t.Fatalf("Trim(%d) is %v, not %v", i, e, want)
		}
	case 3:
		*c = mustLoad(t, c.Bytes())
	default:
		if got, e := c.Read(i); !within && (e != api.ErrArg || len(got) != 0) {
			t.Fatalf("Read(%d) is % x, %v", i, got, e)
		}
	}
	mustHave(t, c, p)
}

// P21.1, P21.2: many calls of all kinds, each against the document's words.
func TestAsWorded(t *testing.T) {
	for seed := range 50 {
		r := rand.New(rand.NewSource(int64(seed)))
		var c block.Content
		p := blank()
		for range 500 {
			turn(t, &c, p, r)
		}
	}
}
