package volume_test

import (
	"bytes"
	"encoding/binary"
	"math"
	"math/rand"
	"slices"
	"testing"

	"dotterel/api"
	"dotterel/volume"
)

// mustLoad is the state that was loaded of a state's bytes, and answers as it.
func mustLoad(t *testing.T, s *volume.State) *volume.State {
	t.Helper()
	b := s.Bytes()
	x, ok := volume.Load(b)
	if !ok {
		t.Fatalf("% x isn't loaded", b)
	}
	if !bytes.Equal(x.Bytes(), b) || !bytes.Equal(s.Bytes(), b) {
		t.Fatalf("% x is loaded as % x", b, x.Bytes())
	}
	mustBeAlike(t, s, x)
	return x
}

// mustBeAlike wants two states to answer alike all calls that ask.
func mustBeAlike(t *testing.T, s, x *volume.State) {
	t.Helper()
	if !slices.Equal(s.Volumes(), x.Volumes()) || !slices.Equal(s.Chunks(), x.Chunks()) || !slices.Equal(s.Servers(), x.Servers()) {
		t.Fatalf("%v, %v, %v; and %v, %v, %v", s.Volumes(), s.Chunks(), s.Servers(), x.Volumes(), x.Chunks(), x.Servers())
	}
	for _, id := range s.Volumes() {
		v, _ := s.Volume(id)
		if w, ok := x.Volume(id); !ok || !sameVolume(v, w) {
			t.Fatalf("%v and %v", v, w)
		}
	}
	for _, id := range s.Chunks() {
		k, _ := s.Chunk(id)
		if l, ok := x.Chunk(id); !ok || !sameChunk(k, l) {
			t.Fatalf("%v and %v", k, l)
		}
	}
	for id := range 16 {
		if !slices.Equal(s.Policies(id), x.Policies(id)) {
			t.Fatalf("%v and %v", s.Policies(id), x.Policies(id))
		}
	}
}

// mustNotLoad wants b to be no Bytes of any, or those of what is loaded, which is a state like others.
func mustNotLoad(t *testing.T, b []byte) bool {
	t.Helper()
	had := slices.Clone(b)
	x, ok := volume.Load(b)
	if !bytes.Equal(b, had) {
		t.Fatalf("% x became % x", had, b)
	}
	if ok != (x != nil) {
		t.Fatalf("% x is loaded as %v, %v", b, x, ok)
	}
	if !ok {
		return false
	}
	if !bytes.Equal(x.Bytes(), b) {
		t.Fatalf("% x is loaded as % x", b, x.Bytes())
	}
	mustHold(t, x)
	return true
}

// some are states of which each has something that the others haven't.
func some(t *testing.T) []*volume.State {
	t.Helper()
	p := api.Policy{Reserve: 300, Weight: 2, Limit: 400, Burst: 5}
	rows := [][]api.Command{
		{},
		{{Kind: api.CServer, A: 15, B: 64}},
		{{Kind: api.CServer, A: 3, B: 2}, {Kind: api.CServer, A: 0, B: 1}, {Kind: api.CServer, A: 3, B: 1}},
		{{Kind: api.CServer, A: 3, B: 2}, {Kind: api.CCreate, A: 63, B: 290, C: 1, P: p}},
		{{Kind: api.CServer, A: 3, B: 2}, {Kind: api.CCreate, A: 0, B: 1, C: 1, P: p}, {Kind: api.CDelete, A: 0}},
		{{Kind: api.CServer, A: 3, B: 2}, {Kind: api.CServer, A: 5, B: 2}, {Kind: api.CServer, A: 7, B: 3}, {Kind: api.CServer, A: 9, B: 4}, {Kind: api.CCreate, A: 4, B: 30, C: 2, P: p}, {Kind: api.CCreate, A: 2, B: 9, C: 3, P: p}, {Kind: api.CPolicy, A: 4, P: api.Policy{Weight: 9}}, {Kind: api.CResize, A: 4, B: 17}, {Kind: api.CJoin, A: 2, B: 1, C: 3}, {Kind: api.CJoin, A: 2, B: 2, C: 5}, {Kind: api.CPromote, A: 2, B: 3, C: 5}, {Kind: api.CDrop, A: 2, B: 4, C: 7}, {Kind: api.CResize, A: 4, B: 60}},
	}
	var l []*volume.State
	for _, row := range rows {
		s := volume.New()
		for _, c := range row {
			if e := s.Apply(c); e != api.OK {
				t.Fatalf("%+v is answered %v", c, e)
			}
		}
		l = append(l, s)
	}
	return l
}

// P18.2: what is loaded answers as what it is of, and goes on alike, also in the numbers of the chunks to come.
func TestLoad(t *testing.T) {
	seen := map[string]int{}
	for i, s := range some(t) {
		x := mustLoad(t, s)
		seen[string(s.Bytes())]++
		if len(seen) != i+1 {
			t.Fatalf("state %d has the bytes of another one", i)
		}
		for _, c := range []api.Command{{Kind: api.CServer, A: 1, B: 60}, {Kind: api.CCreate, A: 33, B: 33, C: 1, P: api.Policy{Weight: 1}}, {Kind: api.CResize, A: 4, B: 90}, {Kind: api.CDrop, A: 2, B: 5, C: 3}, {Kind: api.CJoin, A: 2, B: 5, C: 9}} {
			if a, b := s.Apply(c), x.Apply(c); a != b {
				t.Fatalf("%+v is answered %v, and %v", c, a, b)
			}
			mustBeAlike(t, s, x)
			if !bytes.Equal(s.Bytes(), x.Bytes()) {
				t.Fatalf("% x and % x", s.Bytes(), x.Bytes())
			}
		}
	}
}

// P18.2: that a chunk was made is kept, also when it is gone: its number isn't given again.
func TestNumbersAreKept(t *testing.T) {
	s := some(t)[4]
	for _, x := range []*volume.State{s, mustLoad(t, s)} {
		if e := x.Apply(api.Command{Kind: api.CCreate, A: 1, B: 8, C: 1, P: api.Policy{Weight: 1}}); e != api.OK || !slices.Equal(x.Chunks(), []int{2}) {
			t.Fatal(e, x.Chunks())
		}
	}
}

// P18.2: fields of a state, of which each part is at its bounds, or beyond them, by itself.
func TestLoadOfFields(t *testing.T) {
	// How many chunks were made; servers 1, 2, 3, 5, 9 and their capacities; volumes 4 and 6, with the chunks 2 and 3, and 1: how far each is from the one ahead, its epoch, its members, and who joins.
	right := [][]int{
		{7}, {5}, {1, 1}, {2, 64}, {3, 1}, {5, 1}, {9, 1}, {2},
		{4}, {16}, {500, 1, 600, 3}, {1}, {2}, {4}, {2, 3, 1}, {2, 9, 5}, {1}, {1}, {1, 2}, {0},
		{6}, {8}, {500, 7, 0, 0}, {2}, {1}, {1}, {4, 9, 3, 2, 1}, {0},
	}
	b := fields(slices.Concat(right...)...)
	if !mustNotLoad(t, b) {
		t.Fatalf("% x isn't loaded", b)
	}
	for _, x := range []struct {
		at    int
		parts []int
		want  bool
	}{
		{0, []int{3}, true}, {0, []int{2}, false}, {0, []int{0}, false}, {0, []int{1 << 37}, true}, {0, []int{1<<37 + 1}, false}, {0, []int{1 << 62}, false},
		{1, []int{4}, false}, {1, []int{17}, false}, {1, []int{1 << 62}, false}, {2, []int{1, 0}, false}, {2, []int{1, 64}, true}, {2, []int{1, 65}, false}, {2, []int{1, 1 << 62}, false}, {2, []int{0, 1}, false},
		{2, []int{2, 1}, false}, {4, []int{4, 1}, false}, {6, []int{5, 1}, false}, {6, []int{15, 1}, false}, {6, []int{16, 1}, false}, {7, []int{1}, false}, {7, []int{65}, false},
		{8, []int{0}, true}, {8, []int{6}, false}, {8, []int{7}, false}, {8, []int{64}, false}, {20, []int{63}, true}, {20, []int{64}, false}, {20, []int{4}, false}, {20, []int{3}, false},
		{9, []int{9}, true}, {9, []int{8}, false}, {9, []int{17}, false}, {9, []int{0}, false}, {21, []int{1}, true}, {21, []int{0}, false}, {21, []int{9}, false}, {21, []int{513}, false},
		{10, []int{501, 1, 600, 3}, false}, {10, []int{500, 0, 600, 3}, false}, {10, []int{500, 1, 499, 3}, false}, {10, []int{500, 1, 0, 1025}, false}, {10, []int{0, 1024, 1 << 20, 1024}, true}, {10, []int{0, 1, 1<<20 + 1, 0}, false},
		{11, []int{0}, false}, {11, []int{1 << 37}, true}, {11, []int{1<<37 + 1}, false}, {12, []int{0}, false}, {12, []int{1}, false}, {12, []int{3}, true}, {12, []int{7}, false}, {16, []int{0}, false}, {16, []int{5}, true}, {16, []int{6}, false},
		{24, []int{0}, false}, {24, []int{2}, false}, {24, []int{3}, false}, {24, []int{7}, true}, {24, []int{8}, false},
		{13, []int{3}, true}, {13, []int{2}, false}, {13, []int{0}, false}, {13, []int{1 << 37}, true}, {13, []int{1<<37 + 1}, false}, {17, []int{0}, false},
		{14, []int{0}, false}, {14, []int{1, 3}, true}, {14, []int{2, 3, 3}, false}, {14, []int{2, 1, 3}, true}, {14, []int{2, 3, 0}, false}, {14, []int{2, 3, 15}, false}, {14, []int{2, 3, 16}, false}, {14, []int{2, 3, 9}, false}, {14, []int{3, 3, 1, 2}, false},
		{15, []int{0}, true}, {15, []int{2, 9, 9}, false}, {15, []int{2, 5, 9}, true}, {15, []int{2, 9, 4}, false}, {15, []int{3, 9, 5, 2}, false}, {15, []int{1, 3}, false},
		{18, []int{0}, false}, {18, []int{4, 1, 2, 3, 9}, true}, {18, []int{4, 1, 2, 3, 2}, false}, {26, []int{5, 9, 3, 2, 1, 5}, false}, {26, []int{4, 9, 3, 2, 2}, false}, {27, []int{1, 5}, false}, {19, []int{1, 5}, false},
	} {
		parts := slices.Clone(right)
		parts[x.at] = x.parts
		if got := mustNotLoad(t, fields(slices.Concat(parts...)...)); got != x.want {
			t.Errorf("with %v at %d it is loaded: %v", x.parts, x.at, got)
		}
	}
}

// P18.2, P1: bytes that are cut short, have more behind them, or one bit, one byte, or one number that is another, are none of any, or those of what is loaded.
func TestLoadOfOthers(t *testing.T) {
	loaded, tried := 0, 0
	try := func(b []byte) {
		t.Helper()
		tried++
		if mustNotLoad(t, b) {
			loaded++
		}
	}
	for _, s := range some(t) {
		b := s.Bytes()
		for n := range b {
			if mustNotLoad(t, b[:n]) {
				t.Fatalf("the first %d of % x are loaded", n, b)
			}
		}
		for _, more := range []string{"\x00", "\x01", "\x80", "\xff\xff"} {
			if mustNotLoad(t, append(slices.Clone(b), more...)) {
				t.Fatalf("% x is loaded with % x behind", b, more)
			}
		}
		for i := range b {
			for x := range 256 {
				c := slices.Clone(b)
				c[i] = byte(x)
				try(c)
			}
			try(slices.Concat(b[:i], b[i+1:]))
			for _, more := range []string{"\x00", "\x01", "\x80\x00", "\xff\xff\xff\xff\xff\xff\xff\xff\x7f", "\x80\x80\x80\x80\x10", "\x80\x80\x80\x80\x80\x20"} {
				try(slices.Concat(b[:i], []byte(more), b[i:]))
				try(slices.Concat(b[:i], []byte(more), b[i+1:]))
			}
			for j := range b[:i] {
				c := slices.Clone(b)
				c[i], c[j] = c[j], c[i]
				try(c)
			}
		}
	}
	if loaded < 100 || tried-loaded < 10000 {
		t.Errorf("%d of %d were loaded", loaded, tried)
	}
	for _, b := range [][]byte{nil, {}, {0}, {0, 0}, {1}, make([]byte, 1<<20), bytes.Repeat([]byte{0xff}, 1<<20), bytes.Repeat([]byte{1}, 1<<16)} {
		if mustNotLoad(t, b) {
			t.Errorf("%d bytes are loaded", len(b))
		}
	}
}

// P18.2, P18.3: states that are loaded of bent bytes are states: they go on as others.
func TestBentStatesGoOn(t *testing.T) {
	chance := rand.New(rand.NewSource(182))
	loaded := 0
	for _, s := range some(t) {
		for range 4000 {
			b := s.Bytes()
			for range 1 + chance.Intn(2) {
				b[chance.Intn(len(b))] = byte(chance.Intn(18))
			}
			x, ok := volume.Load(b)
			if !ok {
				continue
			}
			loaded++
			m := newModel()
			for _, id := range x.Chunks() {
				k, _ := x.Chunk(id)
				m.chunks[id] = &k
			}
			for range 3 {
				x.Apply(anyCommand(chance, m, 16, 8, 60))
				mustHold(t, x)
				mustNotFall(t, m, x)
			}
			mustLoad(t, x)
		}
	}
	if loaded < 500 {
		t.Errorf("only %d were loaded", loaded)
	}
}

// P1: any bytes are taken, short ones all.
func TestLoadOfAnyBytes(t *testing.T) {
	for x := range 256 {
		mustNotLoad(t, []byte{byte(x)})
		for y := range 256 {
			mustNotLoad(t, []byte{byte(x), byte(y)})
			for z := range 4 {
				mustNotLoad(t, []byte{byte(x), byte(y), byte(z)})
			}
		}
	}
	chance := rand.New(rand.NewSource(183))
	for range 100000 {
		b := make([]byte, chance.Intn(30))
		for i := range b {
			b[i] = byte(chance.Intn(1 << (1 + chance.Intn(8))))
		}
		mustNotLoad(t, b)
	}
}

// fields are the short numbers of chapter 3, made apart from the program.
func fields(numbers ...int) []byte {
	var b []byte
	for _, n := range numbers {
		b = binary.AppendUvarint(b, uint64(max(n, 0)))
	}
	return b
}

// P18.2: the fields of a command, and what they are read as.
func TestPut(t *testing.T) {
	p := api.Policy{Reserve: 5, Weight: 6, Limit: 7, Burst: 8}
	for _, x := range []struct {
		c    api.Command
		want string
	}{
		{api.Command{}, "\x00\x00\x00\x00\x00\x00\x00\x00"},
		{api.Command{Kind: 1, A: 2, B: 3, C: 4, P: p}, "\x01\x02\x03\x04\x05\x06\x07\x08"},
		{api.Command{Kind: api.CCreate, A: 3, B: 300, C: 1, P: api.Policy{Reserve: 400, Weight: 1}}, "\x02\x03\xac\x02\x01\x90\x03\x01\x00\x00"},
		{api.Command{Kind: 300, C: math.MaxInt}, "\xac\x02\x00\x00\xff\xff\xff\xff\xff\xff\xff\xff\x7f\x00\x00\x00\x00"},
	} {
		if got := volume.Put(x.c); string(got) != x.want {
			t.Errorf("Put(%v) is % x, not % x", x.c, got, x.want)
		}
		if got, ok := volume.Read([]byte(x.want)); !ok || got != x.c {
			t.Errorf("% x is read as %v, %v, not %v", x.want, got, ok, x.c)
		}
	}
}

// P18.2, R1: commands of any numbers, right or not; those below 0 are put, and read, as 0.
func TestPutOfAny(t *testing.T) {
	numbers := slices.Concat([]int{0, 1, 7, 8, 127, 128, 300, 16383, 16384, 1 << 20, 1 << 40, 1 << 61, math.MaxInt - 1}, far)
	chance := rand.New(rand.NewSource(184))
	pick := func() int { return numbers[chance.Intn(len(numbers))] }
	for range 50000 {
		n := [8]int{pick(), pick(), pick(), pick(), pick(), pick(), pick(), pick()}
		c := api.Command{Kind: n[0], A: n[1], B: n[2], C: n[3], P: api.Policy{Reserve: n[4], Weight: n[5], Limit: n[6], Burst: n[7]}}
		b := volume.Put(c)
		if !bytes.Equal(b, fields(n[:]...)) {
			t.Fatalf("Put(%v) is % x", c, b)
		}
		for i := range n {
			n[i] = max(n[i], 0)
		}
		want := api.Command{Kind: n[0], A: n[1], B: n[2], C: n[3], P: api.Policy{Reserve: n[4], Weight: n[5], Limit: n[6], Burst: n[7]}}
		if got, ok := volume.Read(b); !ok || got != want {
			t.Fatalf("% x is read as %v, %v", b, got, ok)
		}
	}
}

// mustNotRead wants b to be no Put of any, or that of what is read.
func mustNotRead(t *testing.T, b []byte) bool {
	t.Helper()
	c, ok := volume.Read(b)
	if !ok && c != (api.Command{}) || ok && !bytes.Equal(volume.Put(c), b) {
		t.Fatalf("% x is read as %v, %v", b, c, ok)
	}
	return ok
}

// P18.2: what is cut short, has more behind it, or writes a number in another way, is no command.
func TestReadOfOthers(t *testing.T) {
	whole := volume.Put(api.Command{Kind: 2, A: 3, B: 300, C: 1, P: api.Policy{Reserve: 400, Weight: 1}})
	wrong := [][]byte{nil, {}, make([]byte, 7), make([]byte, 9), make([]byte, 1<<20), bytes.Repeat([]byte{0xff}, 1<<20), append(make([]byte, 7), 0x80), append(make([]byte, 7), 0x80, 0)}
	for n := range whole {
		wrong = append(wrong, whole[:n])
		if whole[n] < 0x80 {
			wrong = append(wrong, slices.Concat(whole[:n], []byte{whole[n] | 0x80, 0}, whole[n+1:]))
			wrong = append(wrong, slices.Concat(whole[:n], []byte{0x81, 0x80, 0x80, 0x80, 0x80, 0x80, 0x80, 0x80, 0x80, 1}, whole[n+1:]))
		}
	}
	for _, more := range []string{"\x00", "\x01", "\x80"} {
		wrong = append(wrong, append(slices.Clone(whole), more...))
	}
	for _, b := range wrong {
		if mustNotRead(t, b) {
			t.Errorf("% x is read", b[:min(len(b), 40)])
		}
	}
	chance := rand.New(rand.NewSource(185))
	read := 0
	for range 100000 {
		b := make([]byte, 6+chance.Intn(5))
		for i := range b {
			b[i] = byte(chance.Intn(140))
		}
		if mustNotRead(t, b) {
			read++
		}
	}
	if read < 1000 {
		t.Errorf("only %d were read", read)
	}
}
