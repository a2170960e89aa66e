package stripe_test

import (
	"math"
	"math/big"
	"math/rand"
	"slices"
	"testing"

	"dotterel/api"
	"dotterel/stripe"
)

// edges are numbers at the edges of their kind and of the chapter's bounds, and some that are within the bounds when they are cut to fewer bits, or added up.
var edges = []int{
	math.MinInt, math.MinInt + 1, math.MinInt + 8, math.MinInt + 512, -1 << 62, -1 << 40, -1<<32 + 1, -1 << 32, -513, -512, -9, -8, -7, -1,
	0, 1, 7, 8, 9, 15, 16, 17, 255, 256, 504, 505, 511, 512, 513, 520, 1 << 16, 1<<20 - 1, 1 << 20, 1<<20 + 1, 1<<31 - 1, 1 << 31, 1 << 32, 1<<32 + 1, 1<<32 + 512,
	1<<40 - 1, 1 << 40, 1<<40 + 1, 1 << 60, 1 << 61, 1 << 62, 1<<62 + 1, math.MaxInt - 512, math.MaxInt - 8, math.MaxInt - 7, math.MaxInt - 6, math.MaxInt - 1, math.MaxInt,
}

// mustSplit calls Split: its pieces must be those of which the document words each block of the range.
func mustSplit(t *testing.T, blocks, from, many int) {
	t.Helper()
	got, e := stripe.Split(blocks, from, many)
	if e != api.OK {
		t.Fatalf("Split(%d, %d, %d): %v", blocks, from, many, e)
	}
	if want := asWorded(from, many); !slices.Equal(got, want) {
		t.Fatalf("Split(%d, %d, %d) is %v, not %v", blocks, from, many, got, want)
	}
}

// asWorded goes through the range block by block: a block of a chunk that is another one's than the block's ahead of it begins a piece.
func asWorded(from, many int) []api.Piece {
	var l []api.Piece
	for off := 0; off < many; off++ {
		block, chunk := from+off, 0
		for block >= 8 {
			block, chunk = block-8, chunk+1
		}
		if len(l) == 0 || l[len(l)-1].Chunk != chunk {
			l = append(l, api.Piece{Chunk: chunk, At: block, Off: off})
		}
		l[len(l)-1].Many++
	}
	return l
}

// mustRefuse calls Split, which must answer ErrRange and nothing beside it.
func mustRefuse(t *testing.T, blocks, from, many int) {
	t.Helper()
	if got, e := stripe.Split(blocks, from, many); e != api.ErrRange || len(got) != 0 {
		t.Fatalf("Split(%d, %d, %d) is %v, %v", blocks, from, many, got, e)
	}
}

// The chapter's example.
func TestExample(t *testing.T) {
	got, e := stripe.Split(20, 6, 5)
	want := []api.Piece{{Chunk: 0, At: 6, Many: 2, Off: 0}, {Chunk: 1, At: 0, Many: 3, Off: 2}}
	if e != api.OK || !slices.Equal(got, want) {
		t.Fatal(got, e)
	}
}

// P20.1: a chunk more with each eighth block, from the first one on.
func TestCount(t *testing.T) {
	chunks := 0
	for blocks := range 2000 {
		if blocks%8 == 1 {
			chunks++
		}
		if got := stripe.Count(blocks); got != chunks {
			t.Fatalf("Count(%d) is %d, not %d", blocks, got, chunks)
		}
	}
	for _, x := range []struct{ blocks, want int }{
		{0, 0}, {1, 1}, {7, 1}, {8, 1}, {9, 2}, {16, 2}, {17, 3}, {504, 63}, {505, 64}, {511, 64}, {512, 64}, {513, 65}, {520, 65}, {521, 66},
		{1 << 32, 1 << 29}, {1<<32 + 1, 1<<29 + 1}, {1 << 62, 1 << 59}, {math.MaxInt - 8, 1<<60 - 1}, {math.MaxInt - 7, 1<<60 - 1}, {math.MaxInt - 6, 1 << 60}, {math.MaxInt - 1, 1 << 60}, {math.MaxInt, 1 << 60},
	} {
		if got := stripe.Count(x.blocks); got != x.want {
			t.Errorf("Count(%d) is %d, not %d", x.blocks, got, x.want)
		}
	}
	for _, blocks := range edges {
		if got := stripe.Count(blocks); blocks < 1 && got != 0 {
			t.Errorf("Count(%d) is %d", blocks, got)
		}
	}
}

// P20.1: eight blocks of each chunk, one behind the other.
func TestWhere(t *testing.T) {
	block := 0
	for chunk := range 300 {
		for at := range 8 {
			if c, a := stripe.Where(block); c != chunk || a != at {
				t.Fatalf("Where(%d) is %d, %d, not %d, %d", block, c, a, chunk, at)
			}
			block++
		}
	}
	for _, block := range edges {
		chunk, at := stripe.Where(block)
		switch {
		case block < 0 && (chunk != 0 || at != 0):
			t.Errorf("Where(%d) is %d, %d", block, chunk, at)
		case block >= 0 && (at < 0 || at > 7 || chunk < 0 || chunk > 1<<60-1 || chunk*8+at != block):
			t.Errorf("Where(%d) is %d, %d", block, chunk, at)
		}
	}
	if chunk, at := stripe.Where(math.MaxInt); chunk != 1<<60-1 || at != 7 {
		t.Error(chunk, at)
	}
}

// P20.1: the chunks of a volume's blocks are as many as Count tells, each of them.
func TestWhereOfVolumes(t *testing.T) {
	for blocks := range 513 {
		seen := map[int]int{}
		for block := range blocks {
			chunk, _ := stripe.Where(block)
			seen[chunk]++
		}
		if got := stripe.Count(blocks); got != len(seen) || got > 0 && seen[got-1] == 0 {
			t.Fatalf("Count(%d) is %d, and its blocks are of %v", blocks, got, seen)
		}
	}
}

// P20.1: ranges at the edges of chunks and volumes, told by hand.
func TestSplit(t *testing.T) {
	for _, x := range []struct {
		blocks, from, many int
		want               []api.Piece
	}{
		{1, 0, 1, []api.Piece{{Chunk: 0, At: 0, Many: 1, Off: 0}}},
		{8, 0, 8, []api.Piece{{Chunk: 0, At: 0, Many: 8, Off: 0}}},
		{8, 7, 1, []api.Piece{{Chunk: 0, At: 7, Many: 1, Off: 0}}},
		{9, 8, 1, []api.Piece{{Chunk: 1, At: 0, Many: 1, Off: 0}}},
		{9, 7, 2, []api.Piece{{Chunk: 0, At: 7, Many: 1, Off: 0}, {Chunk: 1, At: 0, Many: 1, Off: 1}}},
		{16, 0, 16, []api.Piece{{Chunk: 0, At: 0, Many: 8, Off: 0}, {Chunk: 1, At: 0, Many: 8, Off: 8}}},
		{24, 8, 8, []api.Piece{{Chunk: 1, At: 0, Many: 8, Off: 0}}},
		{24, 3, 18, []api.Piece{{Chunk: 0, At: 3, Many: 5, Off: 0}, {Chunk: 1, At: 0, Many: 8, Off: 5}, {Chunk: 2, At: 0, Many: 5, Off: 13}}},
		{100, 42, 3, []api.Piece{{Chunk: 5, At: 2, Many: 3, Off: 0}}},
		{511, 503, 8, []api.Piece{{Chunk: 62, At: 7, Many: 1, Off: 0}, {Chunk: 63, At: 0, Many: 7, Off: 1}}},
		{512, 511, 1, []api.Piece{{Chunk: 63, At: 7, Many: 1, Off: 0}}},
	} {
		if got, e := stripe.Split(x.blocks, x.from, x.many); e != api.OK || !slices.Equal(got, x.want) {
			t.Errorf("Split(%d, %d, %d) is %v, %v, not %v", x.blocks, x.from, x.many, got, e, x.want)
		}
	}
}

// P20.1: every range, right or beyond, of each short volume; and of the greatest ones, among them those whose last chunk isn't whole.
func TestEveryRange(t *testing.T) {
	for blocks := range 34 {
		for from := range blocks + 10 {
			for many := 1; many <= blocks+10; many++ {
				if from+many <= blocks {
					mustSplit(t, blocks, from, many)
				} else {
					mustRefuse(t, blocks, from, many)
				}
			}
		}
	}
	for _, blocks := range []int{504, 505, 511, 512} {
		for from := 0; from < blocks; from += 1 + from%5 {
			for many := 1; many <= blocks-from; many += 1 + many%7 {
				mustSplit(t, blocks, from, many)
			}
			mustSplit(t, blocks, from, blocks-from)
			mustRefuse(t, blocks, from, blocks-from+1)
		}
	}
}

// P20.1: all volumes there may be, each whole, and one block beyond.
func TestWholeVolumes(t *testing.T) {
	mustRefuse(t, 0, 0, 1)
	for blocks := 1; blocks <= 512; blocks++ {
		mustSplit(t, blocks, 0, blocks)
		if l, _ := stripe.Split(blocks, 0, blocks); len(l) != stripe.Count(blocks) {
			t.Fatalf("%d blocks have %d pieces, and %d chunks", blocks, len(l), stripe.Count(blocks))
		}
		mustRefuse(t, blocks, 0, blocks+1)
		mustRefuse(t, blocks, 1, blocks)
		mustRefuse(t, blocks, blocks, 1)
	}
}

// P20.1: each bound, wrong by itself.
func TestRefused(t *testing.T) {
	for _, x := range [][3]int{
		{-1, 0, 1}, {513, 0, 1}, {math.MinInt, 0, 1}, {math.MaxInt, 0, 1}, {1<<32 + 8, 0, 1},
		{8, -1, 1}, {8, -1, 9}, {8, math.MinInt, 1}, {8, math.MinInt, math.MaxInt}, {8, -1 << 32, 1}, {8, -8, 16},
		{8, 0, 0}, {8, 8, 0}, {8, 3, -1}, {8, 7, -7}, {8, 0, math.MinInt}, {8, math.MaxInt, math.MinInt}, {0, 0, 0}, {512, 512, 0},
		{8, 0, 9}, {8, 1, 8}, {8, 8, 1}, {8, 9, 1}, {7, 7, 1}, {512, 0, 513}, {512, 511, 2}, {512, 512, 1}, {9, 8, 2},
		{8, 0, math.MaxInt}, {8, math.MaxInt, 1}, {8, 1, math.MaxInt}, {8, math.MaxInt, math.MaxInt}, {8, 1 << 62, 1 << 62}, {8, 1<<62 + 1, 1<<62 + 1}, {8, 1 << 32, 1}, {8, 0, 1<<32 + 1},
	} {
		mustRefuse(t, x[0], x[1], x[2])
	}
}

// P20.1: any three numbers, held against the words in numbers that don't go round.
func TestAnyRange(t *testing.T) {
	right := 0
	for _, blocks := range edges {
		for _, from := range edges {
			for _, many := range edges {
				end := new(big.Int).Add(big.NewInt(int64(from)), big.NewInt(int64(many)))
				beyond := end.Cmp(big.NewInt(int64(blocks))) > 0
				if blocks < 0 || blocks > 512 || from < 0 || many < 1 || beyond {
					mustRefuse(t, blocks, from, many)
					continue
				}
				mustSplit(t, blocks, from, many)
				right++
			}
		}
	}
	if right < 200 {
		t.Fatal(right)
	}
}

// P20.2: ranges of bytes at the edges of blocks and of the bounds.
func TestBytes(t *testing.T) {
	for _, x := range []struct{ from, many, first, blocks int }{
		{0, 1, 0, 1}, {0, 15, 0, 1}, {0, 16, 0, 1}, {0, 17, 0, 2}, {0, 32, 0, 2}, {0, 33, 0, 3},
		{15, 1, 0, 1}, {15, 2, 0, 2}, {15, 17, 0, 2}, {15, 18, 0, 3}, {16, 1, 1, 1}, {16, 16, 1, 1}, {16, 17, 1, 2}, {31, 1, 1, 1}, {31, 2, 1, 2},
		{0, 1 << 20, 0, 1 << 16}, {1, 1 << 20, 0, 1<<16 + 1}, {15, 1 << 20, 0, 1<<16 + 1}, {16, 1 << 20, 1, 1 << 16}, {1, 1<<20 - 1, 0, 1 << 16},
		{1 << 31, 1, 1 << 27, 1}, {1<<32 - 1, 2, 1<<28 - 1, 2}, {1 << 32, 17, 1 << 28, 2},
		{1 << 40, 1, 1 << 36, 1}, {1 << 40, 16, 1 << 36, 1}, {1 << 40, 17, 1 << 36, 2}, {1 << 40, 1 << 20, 1 << 36, 1 << 16},
		{1<<40 - 1, 1, 1<<36 - 1, 1}, {1<<40 - 1, 2, 1<<36 - 1, 2}, {1<<40 - 1, 1 << 20, 1<<36 - 1, 1<<16 + 1},
	} {
		if first, blocks, e := stripe.Bytes(x.from, x.many); first != x.first || blocks != x.blocks || e != api.OK {
			t.Errorf("Bytes(%d, %d) is %d, %d, %v, not %d, %d", x.from, x.many, first, blocks, e, x.first, x.blocks)
		}
	}
}

// P20.2: the blocks of each byte of every short range, in their order.
func TestBytesOneByOne(t *testing.T) {
	for from := range 70 {
		for many := 1; many <= 70; many++ {
			var had []int
			for b := from; b < from+many; b++ {
				if block := b / 16; !slices.Contains(had, block) {
					had = append(had, block)
				}
			}
			if first, blocks, e := stripe.Bytes(from, many); first != had[0] || blocks != len(had) || e != api.OK {
				t.Fatalf("Bytes(%d, %d) is %d, %d, %v, not those of %v", from, many, first, blocks, e, had)
			}
		}
	}
}

// P20.2: any two numbers: outside the bounds ErrRange, and nothing beside it; within them no block ahead of the first byte or behind the last is told.
func TestAnyBytes(t *testing.T) {
	for _, from := range edges {
		for _, many := range edges {
			first, blocks, e := stripe.Bytes(from, many)
			if from < 0 || from > 1<<40 || many < 1 || many > 1<<20 {
				if first != 0 || blocks != 0 || e != api.ErrRange {
					t.Errorf("Bytes(%d, %d) is %d, %d, %v", from, many, first, blocks, e)
				}
				continue
			}
			begin, end := first*16, (first+blocks)*16
			if e != api.OK || begin > from || begin+16 <= from || end < from+many || end-16 >= from+many {
				t.Errorf("Bytes(%d, %d) is %d, %d, %v", from, many, first, blocks, e)
			}
		}
	}
}

// P20.3: the pieces have each block of the range once, in their order, and no other; a chunk has one piece at most, of blocks that it has.
func TestEachBlockOnce(t *testing.T) {
	chance := rand.New(rand.NewSource(20))
	for range 20000 {
		blocks := 1 + chance.Intn(512)
		from := chance.Intn(blocks)
		many := 1 + chance.Intn(blocks-from)
		l, e := stripe.Split(blocks, from, many)
		if e != api.OK {
			t.Fatalf("Split(%d, %d, %d): %v", blocks, from, many, e)
		}
		next, chunk := from, -1
		for _, p := range l {
			if p.Chunk <= chunk || p.Chunk >= stripe.Count(blocks) || p.Many < 1 || p.At < 0 || p.At+p.Many > 8 || p.Off != next-from {
				t.Fatalf("Split(%d, %d, %d) is %v", blocks, from, many, l)
			}
			chunk = p.Chunk
			for i := range p.Many {
				if p.Chunk*8+p.At+i != next {
					t.Fatalf("Split(%d, %d, %d) is %v, where block %d is next", blocks, from, many, l, next)
				}
				next++
			}
		}
		if next != from+many {
			t.Fatalf("Split(%d, %d, %d) is %v, up to block %d", blocks, from, many, l, next)
		}
	}
}

// R4 and R6: what is answered is the asker's: written over, and longer, it changes no answer of the same call, ahead or behind.
func TestAnswered(t *testing.T) {
	want := asWorded(5, 30)
	first, _ := stripe.Split(40, 5, 30)
	second, _ := stripe.Split(40, 5, 30)
	first = append(first, api.Piece{Chunk: 77})
	clear(first)
	third, _ := stripe.Split(40, 5, 30)
	if !slices.Equal(second, want) || !slices.Equal(third, want) {
		t.Fatal(second, third)
	}
}
