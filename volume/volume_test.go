package volume_test

import (
	"slices"
	"testing"

	"dotterel/api"
	"dotterel/volume"
)

// step is a command, and what it is to be answered.
type step struct {
	kind, a, b, c int
	p             api.Policy
	want          api.Errno
}

// light is a policy without a reservation.
var light = api.Policy{Weight: 1}

// of is a policy with a reservation alone.
func of(reserve int) api.Policy { return api.Policy{Reserve: reserve, Weight: 1} }

// run lets commands be done, one by one; one that is refused must change nothing.
func run(t *testing.T, s *volume.State, steps ...step) {
	t.Helper()
	for i, x := range steps {
		before := string(s.Bytes())
		if got := s.Apply(api.Command{Kind: x.kind, A: x.a, B: x.b, C: x.c, P: x.p}); got != x.want {
			t.Fatalf("step %d, %+v: %v", i, x, got)
		}
		if x.want != api.OK && string(s.Bytes()) != before {
			t.Fatalf("step %d, %+v, was refused, and changed the state", i, x)
		}
	}
}

// servers is a state with so many servers, from 0 on, of one capacity.
func servers(t *testing.T, many, picks int) *volume.State {
	t.Helper()
	s := volume.New()
	for id := range many {
		run(t, s, step{kind: api.CServer, a: id, b: picks})
	}
	return s
}

func mustChunk(t *testing.T, s *volume.State, want api.Chunk) {
	t.Helper()
	if k, ok := s.Chunk(want.Id); !ok || !sameChunk(k, want) {
		t.Fatalf("chunk %d is %v, %v, not %v", want.Id, k, ok, want)
	}
}

func mustVolume(t *testing.T, s *volume.State, want api.Volume) {
	t.Helper()
	if v, ok := s.Volume(want.Id); !ok || !sameVolume(v, want) {
		t.Fatalf("volume %d is %v, %v, not %v", want.Id, v, ok, want)
	}
}

// P18.1: an empty state has nothing, and refuses what needs something.
func TestNew(t *testing.T) {
	s := volume.New()
	mustAnswer(t, s, newModel())
	mustLoad(t, s)
	run(t, s,
		step{kind: api.CCreate, b: 8, c: 1, p: light, want: api.ErrNone}, step{kind: api.CDelete, want: api.ErrNone}, step{kind: api.CResize, b: 8, want: api.ErrNone},
		step{kind: api.CPolicy, p: light, want: api.ErrNone}, step{kind: api.CDrop, a: 1, b: 1, want: api.ErrNone}, step{kind: api.CJoin, a: 1, b: 1, want: api.ErrNone},
		step{kind: api.CPromote, a: 1, b: 1, want: api.ErrNone})
	mustAnswer(t, s, newModel())
	other := volume.New()
	run(t, other, step{kind: api.CServer, a: 3, b: 1})
	mustAnswer(t, s, newModel())
}

// The chapter's example.
func TestExample(t *testing.T) {
	s := servers(t, 1, 1)
	run(t, s, step{kind: api.CCreate, a: 0, b: 8, c: 1, p: of(1000)}, step{kind: api.CCreate, a: 1, b: 8, c: 1, p: of(1000), want: api.ErrRate})
}

// P18.1: kinds that there aren't, whatever else is told.
func TestKinds(t *testing.T) {
	s := servers(t, 3, 1)
	run(t, s, step{kind: api.CCreate, a: 0, b: 8, c: 1, p: light})
	for _, kind := range slices.Concat([]int{0, 9, 10, 16, 257}, far) {
		for _, x := range []step{{}, {a: 1, b: 1, c: 1, p: light}, {a: -1, b: -1, c: -1}, {a: 99, b: 9999, c: 99}} {
			x.kind, x.want = kind, api.ErrKind
			run(t, s, x)
		}
	}
}

// P18.1: servers' numbers and capacities at their bounds; one that is there has another capacity.
func TestServer(t *testing.T) {
	s := volume.New()
	for _, n := range slices.Concat(far, []int{16, 17, 64}) {
		run(t, s, step{kind: api.CServer, a: n, b: 1, want: api.ErrArg})
	}
	for _, n := range slices.Concat(far, []int{0, 65, 128}) {
		run(t, s, step{kind: api.CServer, a: 1, b: n, want: api.ErrArg})
	}
	run(t, s, step{kind: api.CServer, a: 15, b: 64}, step{kind: api.CServer, a: 0, b: 1}, step{kind: api.CServer, a: 7, b: 5, c: -9, p: api.Policy{Reserve: -1}}, step{kind: api.CServer, a: 7, b: 6})
	if got := s.Servers(); !slices.Equal(got, []api.Load{{Id: 0, N: 1}, {Id: 7, N: 6}, {Id: 15, N: 64}}) {
		t.Fatal(got)
	}
	// Two picks are needed for what 0 has then.
	run(t, s, step{kind: api.CServer, a: 0, b: 2}, step{kind: api.CCreate, a: 9, b: 9, c: 3, p: of(2000)}, step{kind: api.CServer, a: 0, b: 1, want: api.ErrRate}, step{kind: api.CServer, a: 0, b: 0, want: api.ErrArg}, step{kind: api.CServer, a: 0, b: 2}, step{kind: api.CServer, a: 0, b: 3})
}

// P18.1: each part of a volume at its bounds; the errors, where several hold.
func TestCreate(t *testing.T) {
	s := servers(t, 2, 1)
	for _, x := range []step{{a: 64, b: 8, c: 1, p: light}, {a: 0, b: 0, c: 1, p: light}, {a: 0, b: 513, c: 1, p: light}, {a: 0, b: 8, c: 0, p: light}, {a: 0, b: 8, c: 4, p: light}, {a: 0, b: 8, c: 1}, {a: 0, b: 8, c: 1, p: api.Policy{Reserve: 2, Weight: 1, Limit: 1}}, {a: 0, b: 8, c: 1, p: of(-1)}} {
		x.kind, x.want = api.CCreate, api.ErrArg
		run(t, s, x)
	}
	for _, n := range far {
		run(t, s, step{kind: api.CCreate, a: n, b: 8, c: 1, p: light, want: api.ErrArg}, step{kind: api.CCreate, b: n, c: 1, p: light, want: api.ErrArg}, step{kind: api.CCreate, b: 8, c: n, p: light, want: api.ErrArg}, step{kind: api.CCreate, b: 8, c: 1, p: of(n&^1 | -1<<63), want: api.ErrArg})
	}
	run(t, s,
		step{kind: api.CCreate, a: 63, b: 512, c: 2, p: light},
		step{kind: api.CCreate, a: 0, b: 1, c: 1, p: of(600)},
		step{kind: api.CCreate, a: 0, b: 8, c: 3, p: of(600), want: api.ErrThere},
		step{kind: api.CCreate, a: 0, b: 8, c: 4, p: light, want: api.ErrArg},
		step{kind: api.CCreate, a: 1, b: 8, c: 3, p: of(9000), want: api.ErrNone},
		step{kind: api.CCreate, a: 1, b: 8, c: 2, p: of(600), want: api.ErrRate},
		step{kind: api.CCreate, a: 1, b: 9, c: 1, p: of(600), want: api.ErrRate},
		step{kind: api.CCreate, a: 1, b: 8, c: 1, p: of(600)},
	)
	mustVolume(t, s, api.Volume{Id: 0, Blocks: 1, P: of(600), Version: 1, Chunks: []int{65}})
	// What was refused used no numbers up.
	mustVolume(t, s, api.Volume{Id: 1, Blocks: 8, P: of(600), Version: 1, Chunks: []int{66}})
	v, _ := s.Volume(63)
	if len(v.Chunks) != 64 || v.Blocks != 512 || !slices.Equal(s.Chunks(), slices.Collect(ints(1, 67))) || !slices.Equal(s.Volumes(), []int{0, 1, 63}) {
		t.Fatal(v, s.Chunks(), s.Volumes())
	}
}

// P18.1: each chunk comes to who has the fewest then; who joins has it too.
func TestWhoHasTheFewest(t *testing.T) {
	s := servers(t, 4, 9)
	run(t, s, step{kind: api.CCreate, a: 5, b: 17, c: 3, p: light})
	for id, members := range [][]int{{0, 1, 2}, {3, 0, 1}, {2, 3, 0}} {
		mustChunk(t, s, api.Chunk{Id: id + 1, Volume: 5, Epoch: 1, Members: members})
	}
	// 0 has three, the others two each: 1 comes ahead of 2 and 3, until it joins somewhere.
	run(t, s, step{kind: api.CCreate, a: 6, b: 1, c: 1, p: light}, step{kind: api.CJoin, a: 1, b: 1, c: 3}, step{kind: api.CCreate, a: 7, b: 1, c: 2, p: light})
	mustChunk(t, s, api.Chunk{Id: 4, Volume: 6, Epoch: 1, Members: []int{1}})
	mustChunk(t, s, api.Chunk{Id: 5, Volume: 7, Epoch: 1, Members: []int{2, 0}})
	// A new one has none, and is the first till it has as many.
	run(t, s, step{kind: api.CServer, a: 9, b: 1}, step{kind: api.CCreate, a: 8, b: 40, c: 1, p: light})
	for id, member := range []int{9, 9, 9, 1, 2} {
		mustChunk(t, s, api.Chunk{Id: 6 + id, Volume: 8, Epoch: 1, Members: []int{member}})
	}
}

// P18.1: a volume goes with its chunks; made again it is new, its chunks too.
func TestDelete(t *testing.T) {
	s := servers(t, 2, 1)
	run(t, s, step{kind: api.CCreate, a: 3, b: 20, c: 2, p: of(900)}, step{kind: api.CCreate, a: 4, b: 3, c: 1, p: light}, step{kind: api.CPolicy, a: 3, p: of(800)})
	for _, n := range slices.Concat(far, []int{0, 5, 64, 67}) {
		run(t, s, step{kind: api.CDelete, a: n, want: api.ErrNone})
	}
	run(t, s, step{kind: api.CDelete, a: 3, b: -1, c: -1}, step{kind: api.CDelete, a: 3, want: api.ErrNone})
	if _, ok := s.Volume(3); ok || !slices.Equal(s.Chunks(), []int{4}) || !slices.Equal(s.Volumes(), []int{4}) || !slices.Equal(s.Policies(0), []api.Policy{light}) || len(s.Policies(1)) != 0 {
		t.Fatal(s.Chunks(), s.Volumes(), s.Policies(0), s.Policies(1))
	}
	run(t, s, step{kind: api.CDrop, a: 1, b: 1, c: 0, want: api.ErrNone}, step{kind: api.CCreate, a: 3, b: 9, c: 1, p: light})
	mustVolume(t, s, api.Volume{Id: 3, Blocks: 9, P: light, Version: 1, Chunks: []int{5, 6}})
	mustChunk(t, s, api.Chunk{Id: 5, Volume: 3, Epoch: 1, Members: []int{1}})
}

// P18.1: fewer blocks, and more: the last chunks go, and new ones come with as many members as the first one has.
func TestResize(t *testing.T) {
	s := servers(t, 5, 1)
	run(t, s, step{kind: api.CCreate, a: 3, b: 20, c: 2, p: of(300)}, step{kind: api.CCreate, a: 4, b: 8, c: 1, p: of(600)})
	for _, n := range slices.Concat(far, []int{0, 513, 1024}) {
		run(t, s, step{kind: api.CResize, a: 3, b: n, want: api.ErrArg}, step{kind: api.CResize, a: 9, b: n, want: api.ErrArg}, step{kind: api.CResize, a: n&^1 | -1<<63, b: 8, want: api.ErrNone})
	}
	run(t, s, step{kind: api.CResize, a: 9, b: 8, want: api.ErrNone}, step{kind: api.CResize, a: 64, b: 8, want: api.ErrNone})
	run(t, s, step{kind: api.CResize, a: 3, b: 24})
	mustVolume(t, s, api.Volume{Id: 3, Blocks: 24, P: of(300), Version: 1, Chunks: []int{1, 2, 3}})
	run(t, s, step{kind: api.CResize, a: 3, b: 16}, step{kind: api.CResize, a: 3, b: 1})
	mustVolume(t, s, api.Volume{Id: 3, Blocks: 1, P: of(300), Version: 1, Chunks: []int{1}})
	mustChunk(t, s, api.Chunk{Id: 1, Volume: 3, Epoch: 1, Members: []int{0, 1}})
	// Who joins counts for no member; who is promoted does, also beyond three.
	run(t, s, step{kind: api.CJoin, a: 1, b: 1, c: 2}, step{kind: api.CResize, a: 3, b: 9})
	mustChunk(t, s, api.Chunk{Id: 5, Volume: 3, Epoch: 1, Members: []int{3, 4}})
	run(t, s, step{kind: api.CResize, a: 3, b: 8}, step{kind: api.CPromote, a: 1, b: 2, c: 2}, step{kind: api.CJoin, a: 1, b: 3, c: 4}, step{kind: api.CPromote, a: 1, b: 4, c: 4}, step{kind: api.CDelete, a: 4}, step{kind: api.CResize, a: 3, b: 17})
	mustChunk(t, s, api.Chunk{Id: 1, Volume: 3, Epoch: 5, Members: []int{0, 1, 2, 4}})
	mustChunk(t, s, api.Chunk{Id: 6, Volume: 3, Epoch: 1, Members: []int{3, 0, 1, 2}})
	mustChunk(t, s, api.Chunk{Id: 7, Volume: 3, Epoch: 1, Members: []int{3, 4, 0, 1}})
	// Fewer of the first one are fewer of those to come, whatever others have.
	run(t, s, step{kind: api.CDrop, a: 1, b: 5, c: 0}, step{kind: api.CDrop, a: 1, b: 6, c: 4}, step{kind: api.CDrop, a: 1, b: 7, c: 2}, step{kind: api.CResize, a: 3, b: 25})
	mustChunk(t, s, api.Chunk{Id: 8, Volume: 3, Epoch: 1, Members: []int{2}})
}

// P18.1: what would come to a server that has no room for it is refused as a whole; fewer blocks never are.
func TestResizeAndRates(t *testing.T) {
	s := servers(t, 2, 1)
	run(t, s, step{kind: api.CCreate, a: 0, b: 8, c: 1, p: of(600)}, step{kind: api.CCreate, a: 1, b: 8, c: 1, p: of(600)})
	// The second chunk comes to server 0, which has room for its own volume; the third one would come to 1.
	run(t, s, step{kind: api.CResize, a: 0, b: 16}, step{kind: api.CResize, a: 0, b: 17, want: api.ErrRate}, step{kind: api.CResize, a: 0, b: 512, want: api.ErrRate}, step{kind: api.CResize, a: 0, b: 7})
	run(t, s, step{kind: api.CServer, a: 2, b: 1}, step{kind: api.CResize, a: 0, b: 16}, step{kind: api.CResize, a: 0, b: 24})
	mustChunk(t, s, api.Chunk{Id: 4, Volume: 0, Epoch: 1, Members: []int{2}})
	mustChunk(t, s, api.Chunk{Id: 5, Volume: 0, Epoch: 1, Members: []int{0}})
	run(t, s, step{kind: api.CResize, a: 0, b: 25, want: api.ErrRate}, step{kind: api.CResize, a: 0, b: 8})
}

// P18.1: a policy, and its version.
func TestPolicy(t *testing.T) {
	s := servers(t, 2, 1)
	run(t, s, step{kind: api.CCreate, a: 0, b: 16, c: 1, p: of(600)}, step{kind: api.CCreate, a: 1, b: 8, c: 1, p: of(390)})
	for _, p := range []api.Policy{{}, {Weight: 1025}, {Weight: 1, Limit: 1, Reserve: 2}, {Weight: 1, Burst: -1}, {Weight: 1, Reserve: 1<<20 + 1}} {
		run(t, s, step{kind: api.CPolicy, a: 0, p: p, want: api.ErrArg}, step{kind: api.CPolicy, a: 9, p: p, want: api.ErrArg})
	}
	for _, n := range slices.Concat(far, []int{9, 64}) {
		run(t, s, step{kind: api.CPolicy, a: n, p: light, want: api.ErrNone})
	}
	full := api.Policy{Reserve: 600, Weight: 1024, Limit: 600, Burst: 1024}
	run(t, s, step{kind: api.CPolicy, a: 0, p: of(611), want: api.ErrRate}, step{kind: api.CPolicy, a: 0, p: full, b: -7, c: 99})
	mustVolume(t, s, api.Volume{Id: 0, Blocks: 16, P: full, Version: 2, Chunks: []int{1, 2}})
	// The same one is one more, too.
	run(t, s, step{kind: api.CPolicy, a: 0, p: full}, step{kind: api.CPolicy, a: 0, p: light}, step{kind: api.CPolicy, a: 1, p: of(1000)})
	mustVolume(t, s, api.Volume{Id: 0, Blocks: 16, P: light, Version: 4, Chunks: []int{1, 2}})
	if a, b := s.Policies(0), s.Policies(1); !slices.Equal(a, []api.Policy{light, of(1000)}) || !slices.Equal(b, []api.Policy{light}) {
		t.Fatal(a, b)
	}
}

// P18.1: members that go; the errors, where several hold.
func TestDrop(t *testing.T) {
	s := servers(t, 4, 1)
	run(t, s, step{kind: api.CCreate, a: 0, b: 8, c: 2, p: light}, step{kind: api.CJoin, a: 1, b: 1, c: 3}, step{kind: api.CJoin, a: 1, b: 2, c: 2})
	for _, n := range slices.Concat(far, []int{0, 2, 63}) {
		run(t, s, step{kind: api.CDrop, a: n, b: 3, c: 0, want: api.ErrNone})
	}
	for _, n := range slices.Concat(far, []int{0, 1, 2, 4}) {
		run(t, s, step{kind: api.CDrop, a: 1, b: n, c: 9, want: api.ErrEpoch})
	}
	for _, n := range slices.Concat(far, []int{4, 15, 16}) {
		run(t, s, step{kind: api.CDrop, a: 1, b: 3, c: n, want: api.ErrArg})
	}
	run(t, s, step{kind: api.CDrop, a: 1, b: 3, c: 0})
	mustChunk(t, s, api.Chunk{Id: 1, Volume: 0, Epoch: 4, Members: []int{1}, Joining: []int{3, 2}})
	// The only member stays, also beside those who join; these may go.
	run(t, s, step{kind: api.CDrop, a: 1, b: 4, c: 1, want: api.ErrState}, step{kind: api.CDrop, a: 1, b: 3, c: 1, want: api.ErrEpoch}, step{kind: api.CDrop, a: 1, b: 4, c: 0, want: api.ErrArg}, step{kind: api.CDrop, a: 1, b: 4, c: 3})
	mustChunk(t, s, api.Chunk{Id: 1, Volume: 0, Epoch: 5, Members: []int{1}, Joining: []int{2}})
	run(t, s, step{kind: api.CDrop, a: 1, b: 5, c: 2}, step{kind: api.CDrop, a: 1, b: 6, c: 1, want: api.ErrState})
	mustChunk(t, s, api.Chunk{Id: 1, Volume: 0, Epoch: 6, Members: []int{1}})
}

// P18.1: those who join, up to four of all; the errors, where several hold.
func TestJoin(t *testing.T) {
	s := servers(t, 7, 1)
	run(t, s, step{kind: api.CCreate, a: 0, b: 8, c: 2, p: of(700)}, step{kind: api.CCreate, a: 1, b: 8, c: 1, p: of(700)}, step{kind: api.CCreate, a: 2, b: 8, c: 1, p: of(290)})
	// Volumes 1 and 2 are at 2 and 3.
	for _, n := range slices.Concat(far, []int{0, 4}) {
		run(t, s, step{kind: api.CJoin, a: n, b: 1, c: 4, want: api.ErrNone})
	}
	for _, n := range slices.Concat(far, []int{7, 15, 16}) {
		run(t, s, step{kind: api.CJoin, a: 1, b: 1, c: n, want: api.ErrNone}, step{kind: api.CJoin, a: 1, b: 9, c: n, want: api.ErrNone})
	}
	for _, n := range slices.Concat(far, []int{0, 2}) {
		run(t, s, step{kind: api.CJoin, a: 1, b: n, c: 0, want: api.ErrEpoch})
	}
	run(t, s, step{kind: api.CJoin, a: 1, b: 1, c: 1, want: api.ErrThere}, step{kind: api.CJoin, a: 1, b: 1, c: 2, want: api.ErrRate}, step{kind: api.CJoin, a: 1, b: 1, c: 6}, step{kind: api.CJoin, a: 1, b: 2, c: 3})
	mustChunk(t, s, api.Chunk{Id: 1, Volume: 0, Epoch: 3, Members: []int{0, 1}, Joining: []int{6, 3}})
	if !slices.Equal(s.Policies(3), []api.Policy{of(700), of(290)}) || !slices.Equal(s.Policies(6), []api.Policy{of(700)}) {
		t.Fatal(s.Policies(3), s.Policies(6))
	}
	run(t, s, step{kind: api.CJoin, a: 1, b: 3, c: 6, want: api.ErrThere}, step{kind: api.CJoin, a: 1, b: 3, c: 2, want: api.ErrFull}, step{kind: api.CJoin, a: 1, b: 2, c: 4, want: api.ErrEpoch}, step{kind: api.CJoin, a: 1, b: 3, c: 4, want: api.ErrFull})
	// Four members are four, too.
	run(t, s, step{kind: api.CPromote, a: 1, b: 3, c: 6}, step{kind: api.CPromote, a: 1, b: 4, c: 3}, step{kind: api.CJoin, a: 1, b: 5, c: 4, want: api.ErrFull}, step{kind: api.CDrop, a: 1, b: 5, c: 0}, step{kind: api.CJoin, a: 1, b: 6, c: 4})
	mustChunk(t, s, api.Chunk{Id: 1, Volume: 0, Epoch: 7, Members: []int{1, 6, 3}, Joining: []int{4}})
}

// P18.1: who joins comes behind all members, in any order; the errors, where several hold.
func TestPromote(t *testing.T) {
	s := servers(t, 5, 1)
	run(t, s, step{kind: api.CCreate, a: 0, b: 16, c: 1, p: light}, step{kind: api.CJoin, a: 2, b: 1, c: 4}, step{kind: api.CJoin, a: 2, b: 2, c: 0}, step{kind: api.CJoin, a: 2, b: 3, c: 3})
	for _, n := range slices.Concat(far, []int{0, 3}) {
		run(t, s, step{kind: api.CPromote, a: n, b: 4, c: 0, want: api.ErrNone})
	}
	for _, n := range slices.Concat(far, []int{0, 3, 5}) {
		run(t, s, step{kind: api.CPromote, a: 2, b: n, c: 9, want: api.ErrEpoch})
	}
	for _, n := range slices.Concat(far, []int{1, 2, 5, 15, 16}) {
		run(t, s, step{kind: api.CPromote, a: 2, b: 4, c: n, want: api.ErrArg})
	}
	run(t, s, step{kind: api.CPromote, a: 2, b: 4, c: 0}, step{kind: api.CPromote, a: 2, b: 5, c: 0, want: api.ErrArg})
	mustChunk(t, s, api.Chunk{Id: 2, Volume: 0, Epoch: 5, Members: []int{1, 0}, Joining: []int{4, 3}})
	run(t, s, step{kind: api.CPromote, a: 2, b: 5, c: 3}, step{kind: api.CPromote, a: 2, b: 6, c: 4})
	mustChunk(t, s, api.Chunk{Id: 2, Volume: 0, Epoch: 7, Members: []int{1, 0, 3, 4}})
	mustChunk(t, s, api.Chunk{Id: 1, Volume: 0, Epoch: 1, Members: []int{0}})
}

// R4: what is answered has memory of its own, all that it has room for.
func TestAnswered(t *testing.T) {
	for _, s := range some(t) {
		before := s.Bytes()
		spoil := func(l []int) {
			l = l[:cap(l)]
			for i := range l {
				l[i] = 77
			}
		}
		spoil(s.Volumes())
		spoil(s.Chunks())
		for _, id := range s.Volumes() {
			v, _ := s.Volume(id)
			spoil(v.Chunks)
		}
		for _, id := range s.Chunks() {
			k, _ := s.Chunk(id)
			spoil(k.Members)
			spoil(k.Joining)
		}
		for id := range 16 {
			l := s.Policies(id)
			clear(l[:cap(l)])
		}
		l := s.Servers()
		clear(l[:cap(l)])
		b := s.Bytes()
		clear(b[:cap(b)])
		if string(s.Bytes()) != string(before) {
			t.Fatalf("% x became % x", before, s.Bytes())
		}
		// What was loaded hangs on its bytes no more.
		room := slices.Concat(before, []byte{1, 2, 3})
		x, ok := volume.Load(room[:len(before)])
		if !ok || string(room) != string(before)+"\x01\x02\x03" {
			t.Fatal(ok, room)
		}
		clear(room)
		mustBeAlike(t, s, x)
	}
}

// R4: what was answered stays as it was, whatever commands come then.
func TestAnswersStay(t *testing.T) {
	s := servers(t, 4, 1)
	run(t, s, step{kind: api.CCreate, a: 0, b: 24, c: 2, p: light}, step{kind: api.CJoin, a: 1, b: 1, c: 3}, step{kind: api.CJoin, a: 1, b: 2, c: 2})
	v, _ := s.Volume(0)
	k, _ := s.Chunk(1)
	l, servers := s.Policies(0), s.Servers()
	run(t, s, step{kind: api.CPromote, a: 1, b: 3, c: 2}, step{kind: api.CDrop, a: 1, b: 4, c: 0}, step{kind: api.CResize, a: 0, b: 9}, step{kind: api.CResize, a: 0, b: 30}, step{kind: api.CPolicy, a: 0, p: of(5)}, step{kind: api.CServer, a: 0, b: 9})
	if !sameVolume(v, api.Volume{Id: 0, Blocks: 24, P: light, Version: 1, Chunks: []int{1, 2, 3}}) || !sameChunk(k, api.Chunk{Id: 1, Epoch: 3, Members: []int{0, 1}, Joining: []int{3, 2}}) || !slices.Equal(l, []api.Policy{light}) || servers[0].N != 1 {
		t.Fatal(v, k, l, servers)
	}
}
