package volume_test

import (
	"math/rand"
	"slices"
	"sort"
	"testing"

	"dotterel/api"
	"dotterel/volume"
)

// model does what the chapter's table tells, row by row, apart from the program.
type model struct {
	capacity map[int]int
	volumes  map[int]*api.Volume
	chunks   map[int]*api.Chunk
	made     int
}

func newModel() *model {
	return &model{capacity: map[int]int{}, volumes: map[int]*api.Volume{}, chunks: map[int]*api.Chunk{}}
}

// clone is a model that shares nothing with m.
func (m *model) clone() *model {
	n := newModel()
	n.made = m.made
	for id, picks := range m.capacity {
		n.capacity[id] = picks
	}
	for id, v := range m.volumes {
		w := *v
		w.Chunks = slices.Clone(v.Chunks)
		n.volumes[id] = &w
	}
	for id, k := range m.chunks {
		l := *k
		l.Members, l.Joining = slices.Clone(k.Members), slices.Clone(k.Joining)
		n.chunks[id] = &l
	}
	return n
}

// among tells whether a number is in one of the lists.
func among(id int, lists ...[]int) bool {
	for _, l := range lists {
		for _, other := range l {
			if other == id {
				return true
			}
		}
	}
	return false
}

// but is l without a number.
func but(l []int, id int) []int {
	rest := []int{}
	for _, other := range l {
		if other != id {
			rest = append(rest, other)
		}
	}
	return rest
}

// rightPolicy tells the words of chapter 10.
func rightPolicy(p api.Policy) bool {
	return 0 <= p.Reserve && p.Reserve <= 1<<20 && 0 <= p.Limit && p.Limit <= 1<<20 && (p.Limit == 0 || p.Limit >= p.Reserve) &&
		1 <= p.Weight && p.Weight <= 1024 && 0 <= p.Burst && p.Burst <= 1024
}

// policies are those of the volumes of which a server has a chunk.
func (m *model) policies(server int) []api.Policy {
	l := []api.Policy{}
	for id := range 64 {
		if v := m.volumes[id]; v != nil {
			for _, k := range v.Chunks {
				if among(server, m.chunks[k].Members, m.chunks[k].Joining) {
					l = append(l, v.P)
					break
				}
			}
		}
	}
	return l
}

// over tells whether a server's policies need more than its capacity.
func (m *model) over() bool {
	for server, picks := range m.capacity {
		load := 0
		for _, p := range m.policies(server) {
			if p.Reserve > 0 {
				space := 65_536_000 / p.Reserve
				load += (1<<40 + space - 1) / space
			}
		}
		if load > picks*1<<24 {
			return true
		}
	}
	return false
}

// makeChunk makes the next chunk of a volume.
func (m *model) makeChunk(v *api.Volume, copies int) {
	type row struct{ chunks, id int }
	rows := []row{}
	for id := range m.capacity {
		many := 0
		for _, k := range m.chunks {
			if among(id, k.Members, k.Joining) {
				many++
			}
		}
		rows = append(rows, row{many, id})
	}
	sort.Slice(rows, func(i, j int) bool {
		if rows[i].chunks != rows[j].chunks {
			return rows[i].chunks < rows[j].chunks
		}
		return rows[i].id < rows[j].id
	})
	m.made++
	k := &api.Chunk{Id: m.made, Volume: v.Id, Epoch: 1}
	for i := 0; i < copies && i < len(rows); i++ {
		k.Members = append(k.Members, rows[i].id)
	}
	m.chunks[k.Id] = k
	v.Chunks = append(v.Chunks, k.Id)
}

// size gives a volume its blocks, and the chunks for them.
func (m *model) size(v *api.Volume, blocks, copies int) {
	v.Blocks = blocks
	want := blocks / 8
	if blocks%8 != 0 {
		want++
	}
	for len(v.Chunks) > want {
		last := v.Chunks[len(v.Chunks)-1]
		delete(m.chunks, last)
		v.Chunks = v.Chunks[:len(v.Chunks)-1]
	}
	for len(v.Chunks) < want {
		m.makeChunk(v, copies)
	}
}

// ofVolumes does the rows of servers and volumes, but ErrRate.
func (m *model) ofVolumes(c api.Command) api.Errno {
	v := m.volumes[c.A]
	switch c.Kind {
	case api.CServer:
		if c.A < 0 || c.A > 15 || c.B < 1 || c.B > 64 {
			return api.ErrArg
		}
		m.capacity[c.A] = c.B
		return api.OK
	case api.CCreate:
		if c.A < 0 || c.A > 63 || c.B < 1 || c.B > 512 || c.C < 1 || c.C > 3 || !rightPolicy(c.P) {
			return api.ErrArg
		}
		if v != nil {
			return api.ErrThere
		}
		if len(m.capacity) < c.C {
			return api.ErrNone
		}
		v = &api.Volume{Id: c.A, P: c.P, Version: 1}
		m.volumes[c.A] = v
		m.size(v, c.B, c.C)
		return api.OK
	case api.CResize:
		if c.B < 1 || c.B > 512 {
			return api.ErrArg
		}
	case api.CPolicy:
		if !rightPolicy(c.P) {
			return api.ErrArg
		}
	}
	if v == nil {
		return api.ErrNone
	}
	switch c.Kind {
	case api.CDelete:
		for _, k := range v.Chunks {
			delete(m.chunks, k)
		}
		delete(m.volumes, c.A)
	case api.CResize:
		m.size(v, c.B, len(m.chunks[v.Chunks[0]].Members))
	case api.CPolicy:
		v.P = c.P
		v.Version++
	}
	return api.OK
}

// ofChunks does the rows of chunks, but ErrRate.
func (m *model) ofChunks(c api.Command) api.Errno {
	k := m.chunks[c.A]
	_, server := m.capacity[c.C]
	if k == nil || c.Kind == api.CJoin && !server {
		return api.ErrNone
	}
	if k.Epoch != c.B {
		return api.ErrEpoch
	}
	has := among(c.C, k.Members, k.Joining)
	switch c.Kind {
	case api.CDrop:
		if !has {
			return api.ErrArg
		}
		if among(c.C, k.Members) && len(k.Members) == 1 {
			return api.ErrState
		}
		k.Members, k.Joining = but(k.Members, c.C), but(k.Joining, c.C)
	case api.CJoin:
		if has {
			return api.ErrThere
		}
		if len(k.Members)+len(k.Joining) == 4 {
			return api.ErrFull
		}
		k.Joining = append(k.Joining, c.C)
	case api.CPromote:
		if !among(c.C, k.Joining) {
			return api.ErrArg
		}
		k.Joining = but(k.Joining, c.C)
		k.Members = append(k.Members, c.C)
	}
	k.Epoch++
	return api.OK
}

// apply is the model behind a command, and what it answers.
func (m *model) apply(c api.Command) (*model, api.Errno) {
	then, err := m.clone(), api.ErrKind
	switch {
	case c.Kind >= api.CServer && c.Kind <= api.CPolicy:
		err = then.ofVolumes(c)
	case c.Kind >= api.CDrop && c.Kind <= api.CPromote:
		err = then.ofChunks(c)
	}
	if err == api.OK && then.over() {
		err = api.ErrRate
	}
	if err != api.OK {
		return m, err
	}
	return then, api.OK
}

func sameVolume(a, b api.Volume) bool {
	return a.Id == b.Id && a.Blocks == b.Blocks && a.P == b.P && a.Version == b.Version && slices.Equal(a.Chunks, b.Chunks)
}

func sameChunk(a, b api.Chunk) bool {
	return a.Id == b.Id && a.Volume == b.Volume && a.Epoch == b.Epoch && slices.Equal(a.Members, b.Members) && slices.Equal(a.Joining, b.Joining)
}

// rising are a map's keys.
func rising[T any](m map[int]T) []int {
	ids := []int{}
	for id := range m {
		ids = append(ids, id)
	}
	sort.Ints(ids)
	return ids
}

// far are numbers that nothing has: around those that are, and like some of them when they are cut to fewer bits.
var far = []int{-1 << 63, -1<<63 + 1, -1 << 32, -1<<32 + 1, -256, -64, -16, -1, 1 << 31, 1 << 32, 1<<32 + 1, 1<<40 + 2, 1<<63 - 1}

// mustAnswer wants all calls that ask to be answered as the model has it.
func mustAnswer(t *testing.T, s *volume.State, m *model) {
	t.Helper()
	for _, id := range slices.Concat(slices.Collect(ints(0, 80)), far) {
		v, ok := s.Volume(id)
		want := m.volumes[id]
		if ok != (want != nil) || ok && !sameVolume(v, *want) || !ok && !sameVolume(v, api.Volume{}) {
			t.Fatalf("volume %d is %v, %v, not %v", id, v, ok, want)
		}
	}
	for _, id := range slices.Concat(slices.Collect(ints(0, m.made+9)), far) {
		k, ok := s.Chunk(id)
		want := m.chunks[id]
		if ok != (want != nil) || ok && !sameChunk(k, *want) || !ok && !sameChunk(k, api.Chunk{}) {
			t.Fatalf("chunk %d is %v, %v, not %v", id, k, ok, want)
		}
	}
	if got := s.Volumes(); !slices.Equal(got, rising(m.volumes)) {
		t.Fatalf("the volumes are %v, not %v", got, rising(m.volumes))
	}
	if got := s.Chunks(); !slices.Equal(got, rising(m.chunks)) {
		t.Fatalf("the chunks are %v, not %v", got, rising(m.chunks))
	}
	servers := []api.Load{}
	for _, id := range rising(m.capacity) {
		servers = append(servers, api.Load{Id: id, N: m.capacity[id]})
	}
	if got := s.Servers(); !slices.Equal(got, servers) {
		t.Fatalf("the servers are %v, not %v", got, servers)
	}
	for _, id := range slices.Concat(slices.Collect(ints(0, 20)), far) {
		if got := s.Policies(id); !slices.Equal(got, m.policies(id)) {
			t.Fatalf("the policies of %d are %v, not %v", id, got, m.policies(id))
		}
	}
}

// ints are the numbers from one up to another.
func ints(from, to int) func(yield func(int) bool) {
	return func(yield func(int) bool) {
		for i := from; i < to; i++ {
			if !yield(i) {
				return
			}
		}
	}
}

// wild is a number that is mostly below most, and seldom far off.
func wild(chance *rand.Rand, most int) int {
	switch chance.Intn(24) {
	case 0:
		return far[chance.Intn(len(far))]
	case 1:
		return most + chance.Intn(3) - 1
	case 2:
		return chance.Intn(3) - 1
	}
	return chance.Intn(most + 1)
}

// anyPolicy is a policy that is mostly right.
func anyPolicy(chance *rand.Rand) api.Policy {
	p := api.Policy{Reserve: chance.Intn(1200), Weight: 1 + chance.Intn(9), Burst: chance.Intn(5)}
	switch chance.Intn(16) {
	case 0:
		p = api.Policy{Reserve: wild(chance, 1<<20), Weight: wild(chance, 1024), Limit: wild(chance, 1<<20), Burst: wild(chance, 1024)}
	case 1, 2, 3:
		p.Limit = chance.Intn(1200)
	case 4, 5, 6, 7, 8:
		p.Reserve = chance.Intn(60)
	}
	return p
}

// anyCommand is one of which much is mostly there.
func anyCommand(chance *rand.Rand, m *model, servers, volumes, blocks int) api.Command {
	c := api.Command{Kind: 1 + chance.Intn(8), A: wild(chance, volumes-1), B: wild(chance, blocks), C: wild(chance, 3), P: anyPolicy(chance)}
	switch {
	case chance.Intn(40) == 0:
		c.Kind = wild(chance, 9)
	case c.Kind == api.CDelete && chance.Intn(3) > 0:
		c.Kind = api.CResize
	case c.Kind == api.CServer:
		c.A, c.B = wild(chance, servers-1), wild(chance, []int{1, 2, 3, 64}[chance.Intn(4)])
	case c.Kind >= api.CDrop:
		c.A, c.C = wild(chance, m.made), wild(chance, servers)
		if ids := rising(m.chunks); len(ids) > 0 && chance.Intn(8) > 0 {
			k := m.chunks[ids[chance.Intn(len(ids))]]
			c.A, c.B = k.Id, k.Epoch+chance.Intn(20)/19
			if len(k.Joining) > 0 && c.Kind == api.CPromote && chance.Intn(2) == 0 {
				c.C = k.Joining[chance.Intn(len(k.Joining))]
			}
			if chance.Intn(2) == 0 {
				c.Kind = api.CJoin
			}
		}
	}
	return c
}

// errorsOf are the answers that the table tells of each kind.
func errorsOf() map[int][]api.Errno {
	return map[int][]api.Errno{
		api.CServer:  {api.OK, api.ErrArg, api.ErrRate},
		api.CCreate:  {api.OK, api.ErrArg, api.ErrThere, api.ErrNone, api.ErrRate},
		api.CDelete:  {api.OK, api.ErrNone},
		api.CResize:  {api.OK, api.ErrArg, api.ErrNone, api.ErrRate},
		api.CPolicy:  {api.OK, api.ErrArg, api.ErrNone, api.ErrRate},
		api.CDrop:    {api.OK, api.ErrNone, api.ErrEpoch, api.ErrArg, api.ErrState},
		api.CJoin:    {api.OK, api.ErrNone, api.ErrEpoch, api.ErrThere, api.ErrFull, api.ErrRate},
		api.CPromote: {api.OK, api.ErrNone, api.ErrEpoch, api.ErrArg},
	}
}

// P18.1, P18.2, P18.3: rows of commands by chance, each answer held against the chapter's table.
func TestAsWorded(t *testing.T) {
	chance := rand.New(rand.NewSource(181))
	times := map[[2]int]int{}
	for round := range 240 {
		servers, volumes, blocks := 1+chance.Intn(16), 1+chance.Intn(8), []int{9, 40, 90}[round%3]
		s, m := volume.New(), newModel()
		for range 160 {
			c := anyCommand(chance, m, servers, volumes, blocks)
			before := m
			var want api.Errno
			m, want = m.apply(c)
			if got := s.Apply(c); got != want {
				t.Fatalf("%+v is answered %v, not %v", c, got, want)
			}
			times[[2]int{c.Kind, int(want)}]++
			mustAnswer(t, s, m)
			mustHold(t, s)
			mustNotFall(t, before, s)
			// Goes on as what it kept, now and then.
			if chance.Intn(4) == 0 {
				s = mustLoad(t, s)
			}
		}
	}
	for kind, errs := range errorsOf() {
		for _, e := range errs {
			if n := times[[2]int{kind, int(e)}]; n < 20 {
				t.Errorf("kind %d was answered %v %d times", kind, e, n)
			}
		}
	}
}

// mustHold wants what P18.3 tells of each state.
func mustHold(t *testing.T, s *volume.State) {
	t.Helper()
	m, chunks := newModel(), 0
	for _, l := range s.Servers() {
		m.capacity[l.Id] = l.N
		if l.Id < 0 || l.Id > 15 || l.N < 1 || l.N > 64 {
			t.Fatalf("a server is %v", l)
		}
	}
	for _, id := range s.Volumes() {
		v, _ := s.Volume(id)
		m.volumes[id] = &v
		if len(v.Chunks) != (v.Blocks+7)/8 || v.Blocks < 1 || v.Version < 1 || !rightPolicy(v.P) {
			t.Fatalf("a volume is %v", v)
		}
		for i, k := range v.Chunks {
			if k < 1 || i > 0 && k <= v.Chunks[i-1] {
				t.Fatalf("a volume is %v", v)
			}
		}
		chunks += len(v.Chunks)
	}
	if len(s.Chunks()) != chunks {
		t.Fatalf("the chunks are %v", s.Chunks())
	}
	for _, id := range s.Chunks() {
		k, _ := s.Chunk(id)
		m.chunks[id] = &k
		having := slices.Concat(k.Members, k.Joining)
		for i, server := range having {
			if m.capacity[server] == 0 || among(server, having[:i]) {
				t.Fatalf("a chunk is %v", k)
			}
		}
		if v := m.volumes[k.Volume]; k.Id != id || len(k.Members) == 0 || len(having) > 4 || k.Epoch < 1 || v == nil || !among(id, v.Chunks) {
			t.Fatalf("a chunk is %v", k)
		}
	}
	if m.over() {
		t.Fatalf("a server has more reserved than its capacity: %v", s.Servers())
	}
}

// mustNotFall wants epochs and versions to be no less than they were.
func mustNotFall(t *testing.T, before *model, s *volume.State) {
	t.Helper()
	for id, was := range before.chunks {
		if k, ok := s.Chunk(id); ok && k.Epoch < was.Epoch {
			t.Fatalf("chunk %d was in epoch %d, then in %d", id, was.Epoch, k.Epoch)
		}
	}
	for id, was := range before.volumes {
		if v, ok := s.Volume(id); ok && v.Version < was.Version {
			t.Fatalf("volume %d had version %d, then %d", id, was.Version, v.Version)
		}
	}
}

// P18.1, P18.3: all that there may be: 64 volumes of 512 blocks at 16 servers, each chunk had by four.
func TestTheMost(t *testing.T) {
	s, m := volume.New(), newModel()
	do := func(c api.Command, want api.Errno) {
		t.Helper()
		if got := s.Apply(c); got != want {
			t.Fatalf("%+v is answered %v, not %v", c, got, want)
		}
	}
	for id := range 16 {
		do(api.Command{Kind: api.CServer, A: id, B: 64}, api.OK)
	}
	p := api.Policy{Reserve: 1000, Weight: 1}
	for id := range 64 {
		do(api.Command{Kind: api.CCreate, A: id, B: 512, C: 3, P: p}, api.OK)
	}
	for id := 1; id <= 4096; id++ {
		k, _ := s.Chunk(id)
		next := (k.Members[2] + 1) % 16
		do(api.Command{Kind: api.CJoin, A: id, B: 1, C: next}, api.OK)
		if id%2 == 0 {
			do(api.Command{Kind: api.CPromote, A: id, B: 2, C: next}, api.OK)
		}
		do(api.Command{Kind: api.CJoin, A: id, B: 2 + (id+1)%2, C: (next + 1) % 16}, api.ErrFull)
	}
	mustHold(t, s)
	// All 64 have a chunk at each server, whose capacity is 64: no room is left.
	for id := range 16 {
		if got := s.Policies(id); len(got) != 64 {
			t.Fatalf("%d policies at %d", len(got), id)
		}
	}
	do(api.Command{Kind: api.CPolicy, A: 9, P: api.Policy{Reserve: 1001, Weight: 1}}, api.ErrRate)
	do(api.Command{Kind: api.CServer, A: 9, B: 63}, api.ErrRate)
	do(api.Command{Kind: api.CCreate, A: 64, B: 512, C: 3, P: p}, api.ErrArg)
	mustLoad(t, s)
	for id := range 64 {
		do(api.Command{Kind: api.CDelete, A: id}, api.OK)
	}
	for id := range 16 {
		m.capacity[id] = 64
	}
	m.made = 4096
	mustAnswer(t, s, m)
}
