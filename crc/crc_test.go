package crc_test

import (
	"bytes"
	"math/bits"
	"slices"
	"testing"

	"dotterel/crc"
)

// slowSum is the sum as the document words it, bit by bit.
func slowSum(b []byte) uint32 {
	sum := uint32(0xffffffff)
	for _, x := range b {
		sum ^= uint32(x)
		for i := 0; i < 8; i++ {
			if sum%2 == 1 {
				sum = sum/2 ^ 0xedb88320
			} else {
				sum = sum / 2
			}
		}
	}
	return sum ^ 0xffffffff
}

// row is n bytes that look like no other row's.
func row(n int, seed uint32) []byte {
	b := make([]byte, n)
	for i := range b {
		seed = seed*1664525 + 1013904223
		b[i] = byte(seed >> 24)
	}
	return b
}

// rows are lists of all small lengths and some greater ones, of all bytes, and of one byte alone.
func rows() [][]byte {
	all := make([]byte, 256)
	for i := range all {
		all[i] = byte(i)
	}
	list := [][]byte{nil, {}, all, make([]byte, 64), bytes.Repeat([]byte{255}, 64), row(4096, 9), row(262144, 10)}
	for n := range 70 {
		list = append(list, row(n, uint32(n)))
	}
	for x := range 256 {
		list = append(list, []byte{byte(x)}, []byte{byte(x), 0, byte(x)})
	}
	return list
}

// P2.1: sums that are known.
func TestSumKnown(t *testing.T) {
	for text, want := range map[string]uint32{
		"":                                    0,
		"a":                                   0xe8b7be43,
		"abc":                                 0x352441c2,
		"123456789":                           0xcbf43926,
		"message digest":                      0x20159d7f,
		"abcdefghijklmnopqrstuvwxyz":          0x4c2750bd,
		"\x00":                                0xd202ef8d,
		"\x00\x00\x00\x00":                    0x2144df1c,
		"\xff\xff\xff\xff":                    0xffffffff,
		"\xff":                                0xff000000,
		string(make([]byte, 32)):              0x190a55ad,
		string(bytes.Repeat([]byte{255}, 32)): 0xff6cab0b,
	} {
		if got := crc.Sum([]byte(text)); got != want {
			t.Errorf("Sum(%q) is %08x, not %08x", text, got, want)
		}
	}
}

// P2.1: the sum of all kinds of lists is what the document's words make.
func TestSumAsWorded(t *testing.T) {
	for _, b := range rows() {
		if got, want := crc.Sum(b), slowSum(b); got != want {
			t.Errorf("Sum of %d bytes %.8x is %08x, not %08x", len(b), b, got, want)
		}
	}
}

// P2.1: one list behind the other, wherever they are parted, and however many there are.
func TestSumOfLists(t *testing.T) {
	if got := crc.Sum(); got != 0 {
		t.Errorf("Sum() is %08x", got)
	}
	if got := crc.Sum(nil, nil, []byte{}, nil); got != 0 {
		t.Errorf("Sum of lists without bytes is %08x", got)
	}
	b := row(23, 5)
	want := slowSum(b)
	for i := range len(b) + 1 {
		for k := i; k <= len(b); k++ {
			if got := crc.Sum(b[:i], b[i:k], nil, b[k:]); got != want {
				t.Errorf("Sum parted at %d and %d is %08x, not %08x", i, k, got, want)
			}
		}
	}
	var single [][]byte
	for i := range b {
		single = append(single, b[i:i+1])
	}
	if got := crc.Sum(single...); got != want {
		t.Errorf("Sum of single bytes is %08x, not %08x", got, want)
	}
	if crc.Sum([]byte("ab"), []byte("c")) == crc.Sum([]byte("c"), []byte("ab")) {
		t.Error("the order of lists doesn't matter")
	}
}

// P2.1: what is sealed is b, and behind it the sum, the lowest byte first.
func TestSeal(t *testing.T) {
	if got := crc.Seal([]byte("123456789")); string(got) != "123456789\x26\x39\xf4\xcb" {
		t.Errorf("Seal is %q", got)
	}
	if got := crc.Seal(nil); !bytes.Equal(got, make([]byte, 4)) {
		t.Errorf("Seal(nil) is %x", got)
	}
	for _, b := range rows() {
		sum := slowSum(b)
		want := append(bytes.Clone(b), byte(sum), byte(sum>>8), byte(sum>>16), byte(sum>>24))
		if got := crc.Seal(b); !bytes.Equal(got, want) {
			t.Errorf("Seal of %d bytes %.8x is not what it should be: %.8x", len(b), b, got)
		}
	}
}

// P2.1: what was sealed is opened, also what was sealed twice.
func TestOpenSealed(t *testing.T) {
	for _, b := range rows() {
		sealed := crc.Seal(b)
		if got, ok := crc.Open(sealed); !ok || !bytes.Equal(got, b) {
			t.Errorf("Open of %d sealed bytes: %.8x, %v", len(b), got, ok)
		}
		if got, ok := crc.Open(crc.Seal(sealed)); !ok || !bytes.Equal(got, sealed) {
			t.Errorf("Open of %d bytes, sealed twice: %.8x, %v", len(b), got, ok)
		}
	}
}

func checkShut(t *testing.T, b []byte) {
	t.Helper()
	if got, ok := crc.Open(b); ok || len(got) != 0 {
		t.Errorf("Open(%x) is %x, %v", b, got, ok)
	}
}

// P2.1: what is shorter than a sum isn't opened, be it of which bytes it may.
func TestOpenShort(t *testing.T) {
	checkShut(t, nil)
	for n := range 4 {
		checkShut(t, make([]byte, n))
		checkShut(t, bytes.Repeat([]byte{255}, n))
		checkShut(t, crc.Seal(nil)[:n])
		checkShut(t, crc.Seal([]byte("abc"))[:n])
	}
}

// P2.1: with another sum nothing is opened: at four bytes only those of the sum of none, and no sum but that of the list, with its bytes in that order.
func TestOpenOtherSum(t *testing.T) {
	if got, ok := crc.Open(make([]byte, 4)); !ok || len(got) != 0 {
		t.Errorf("Open of the sum of nothing is %x, %v", got, ok)
	}
	for i := range 4 {
		for x := 1; x < 256; x++ {
			b := make([]byte, 4)
			b[i] = byte(x)
			checkShut(t, b)
		}
	}
	for _, b := range [][]byte{[]byte("a"), []byte("123456789"), row(64, 3)} {
		sealed := crc.Seal(b)
		slices.Reverse(sealed[len(b):])
		checkShut(t, sealed)
		checkShut(t, append(bytes.Clone(b), 0, 0, 0, 0))
		checkShut(t, append(crc.Seal(b), 0))
		checkShut(t, append([]byte{0}, crc.Seal(b)...))
		checkShut(t, crc.Seal(b)[1:])
		checkShut(t, crc.Seal(b)[:len(b)+3])
	}
}

// flip turns the bits of pattern in b, from bit at on: the lowest bit of a byte comes first, as the sum goes through them.
func flip(b []byte, at int, pattern uint32) []byte {
	b = bytes.Clone(b)
	for i := range 32 {
		if pattern>>i&1 == 1 {
			b[(at+i)/8] ^= 1 << ((at + i) % 8)
		}
	}
	return b
}

// patterns are turned rows of many bits in a row: the first and the last one are turned, those between in several ways.
func patterns(many int) []uint32 {
	if many == 1 {
		return []uint32{1}
	}
	ends := uint32(1) | 1<<(many-1)
	within := ^uint32(0) >> (32 - many)
	list := []uint32{ends, within, ends | 0x55555555&within, ends | 0xaaaaaaaa&within, ends | 0xedb88320&within, ends | 0x04c11db7&within, ends | 0xdb710641&within}
	seed := uint32(many)
	for range 8 {
		seed = seed*1664525 + 1013904223
		list = append(list, ends|bits.Reverse32(seed)&within)
	}
	return list
}

// P2.2: wherever up to 32 bits in a row are turned, be it in the bytes, in the sum or across both.
func TestTurnedIsShut(t *testing.T) {
	for _, b := range [][]byte{nil, {0}, []byte("abc"), []byte("123456789"), make([]byte, 13), row(13, 7)} {
		sealed := crc.Seal(b)
		for at := range len(sealed) * 8 {
			for many := 1; many <= 32 && at+many <= len(sealed)*8; many++ {
				for _, p := range patterns(many) {
					checkShut(t, flip(sealed, at, p))
				}
			}
		}
	}
}

// P2.2: all ways to turn up to 12 bits in a row.
func TestFewTurnedIsShut(t *testing.T) {
	sealed := crc.Seal([]byte("dot"))
	for at := range len(sealed)*8 - 12 {
		for p := uint32(1); p < 1<<12; p++ {
			checkShut(t, flip(sealed, at, p))
		}
	}
}

// P2.2: all ways to turn 32 bits in a row. What a turned bit does to the sum hangs on its place alone, and that of several bits is turned about by each of theirs; so no way leaves the sum right if those of 32 bits in a row hang on none of the others.
func TestTurnsOfThirtyTwoAreFree(t *testing.T) {
	sealed := crc.Seal(row(9, 1))
	for at := range len(sealed)*8 - 31 {
		var free []uint32
		for i := range 32 {
			free = addFree(free, wrong(flip(sealed, at+i, 1)))
		}
		if len(free) != 32 {
			t.Errorf("from bit %d on, only %d of 32 turned bits are free", at, len(free))
		}
	}
}

// wrong is by what a sealed list's sum is another one.
func wrong(sealed []byte) uint32 {
	end := len(sealed) - 4
	tail := sealed[end:]
	return crc.Sum(sealed[:end]) ^ (uint32(tail[0]) | uint32(tail[1])<<8 | uint32(tail[2])<<16 | uint32(tail[3])<<24)
}

// addFree adds what is left of x when the others, each with another highest bit, are taken out of it.
func addFree(free []uint32, x uint32) []uint32 {
	for _, f := range free {
		if x^f < x {
			x ^= f
		}
	}
	if x == 0 {
		return free
	}
	free = append(free, x)
	slices.SortFunc(free, func(a, b uint32) int { return int(int64(b) - int64(a)) })
	return free
}

// P2.1, with the rule on memory: nothing that is handed in is changed, also not what lies behind a list's length.
func TestNothingIsWrittenOver(t *testing.T) {
	whole := []byte("abcdefghijklmnop")
	kept := bytes.Clone(whole)
	crc.Sum(whole[:3], whole[3:5])
	crc.Seal(whole[:3])
	crc.Open(whole[:9])
	if !bytes.Equal(whole, kept) {
		t.Errorf("what was handed in is %q", whole)
	}
	sealed := append(crc.Seal(kept[:3]), "rest"...)
	before := bytes.Clone(sealed)
	opened, ok := crc.Open(sealed[:7])
	if !ok {
		t.Fatal("what was sealed isn't opened")
	}
	opened = append(opened[:0], "XYZ!"...)
	if !bytes.Equal(sealed, before) {
		t.Errorf("writing over what was opened (%q) made what was sealed %q", opened, sealed)
	}
}

// P2.1, with the rule on memory: an answer is new memory, each time.
func TestAnswersAreNew(t *testing.T) {
	b := []byte("abc")
	first, second := crc.Seal(b), crc.Seal(b)
	b[0] = 'x'
	second[1] = 'y'
	if string(first) != "abc\xc2\x41\x24\x35" {
		t.Errorf("what was sealed became %q", first)
	}
	one, _ := crc.Open(first)
	two, _ := crc.Open(first)
	first[0], two[1] = 'z', 'y'
	if string(one) != "abc" {
		t.Errorf("what was opened became %q", one)
	}
}
