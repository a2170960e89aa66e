package volume

import (
	"bytes"
	"math"
	"slices"

	"dotterel/api"
	"dotterel/pack"
	"dotterel/policy"
)

// mostCount is the greatest number that a state counts up to: no more chunks are made by 2^31 commands.
const mostCount = 1 << 37

// Bytes are the fields how many chunks were made; how many servers there are, and of each its number and capacity; how many volumes, and each.
func (s *State) Bytes() []byte {
	var w pack.Writer
	w.Num(s.made)
	servers := s.Servers()
	w.Num(len(servers))
	for _, l := range servers {
		putNums(&w, l.Id, l.N)
	}
	volumes := s.Volumes()
	w.Num(len(volumes))
	for _, id := range volumes {
		w.Num(id)
		s.volumes[id].put(&w)
	}
	return w.Bytes()
}

// put writes a volume: its blocks, policy and version, and of each chunk how far its number is from the one ahead, its epoch, and who has it.
func (v *volume) put(w *pack.Writer) {
	w.Num(v.blocks)
	putNums(w, policy.Nums(v.policy)...)
	w.Num(v.version)
	last := 0
	for _, k := range v.chunks {
		putNums(w, k.Id-last, k.Epoch)
		putList(w, k.Members)
		putList(w, k.Joining)
		last = k.Id
	}
}

// Load is a state whose Bytes b are; false: there is none.
func Load(b []byte) (*State, bool) {
	r := pack.Read(b)
	s := &State{made: r.Num(mostCount)}
	for range r.Num(mostServers) {
		id := r.Num(mostServers - 1)
		s.picks[id] = r.Num(math.MaxInt)
	}
	for range r.Num(mostVolumes) {
		id := r.Num(mostVolumes - 1)
		s.volumes[id] = readVolume(r, id)
	}
	// Its Bytes are others, if a number was there twice, or behind a greater one, or of nothing.
	if r.End() != api.OK || !s.right() || !bytes.Equal(s.Bytes(), b) {
		return nil, false
	}
	return s, true
}

// readVolume reads what put wrote.
func readVolume(r *pack.Reader, id int) volume {
	v := volume{blocks: r.Num(mostBlocks), policy: readPolicy(r), version: r.Num(mostCount)}
	last := 0
	for range count(v.blocks) {
		last += r.Num(mostCount)
		v.chunks = append(v.chunks, api.Chunk{Id: last, Volume: id, Epoch: r.Num(mostCount), Members: readList(r), Joining: readList(r)})
	}
	return v
}

// right tells whether the state is one that commands may make. Whether its policies are right is told by the capacities that admit them.
func (s *State) right() bool {
	ids := s.Chunks()
	if repeats(ids) || len(ids) > 0 && (ids[0] < 1 || ids[len(ids)-1] > s.made) {
		return false
	}
	for _, id := range s.Volumes() {
		v := &s.volumes[id]
		if v.version < 1 || !s.allRight(v.chunks) {
			return false
		}
	}
	return s.admitted()
}

// allRight tells whether each chunk has members, and is had by servers that are there, by none twice, and not by too many.
func (s *State) allRight(chunks []api.Chunk) bool {
	for _, k := range chunks {
		having := slices.Concat(k.Members, k.Joining)
		strange := slices.ContainsFunc(having, func(id int) bool { return !s.isServer(id) })
		// Each who joins made the epoch one more.
		if strange || repeats(having) || len(k.Members) < 1 || len(having) > mostHaving || k.Epoch <= len(k.Joining) {
			return false
		}
	}
	return true
}

// repeats tells whether a number is among l twice.
func repeats(l []int) bool {
	rising := slices.Sorted(slices.Values(l))
	return len(slices.Compact(rising)) < len(l)
}

// Put is a command as bytes.
func Put(c api.Command) []byte {
	var w pack.Writer
	putNums(&w, c.Kind, c.A, c.B, c.C)
	putNums(&w, policy.Nums(c.P)...)
	return w.Bytes()
}

// Read is the command whose Put b is; false: there is none.
func Read(b []byte) (api.Command, bool) {
	r := pack.Read(b)
	c := api.Command{Kind: num(r), A: num(r), B: num(r), C: num(r), P: readPolicy(r)}
	if r.End() != api.OK {
		return api.Command{}, false
	}
	return c, true
}

func putNums(w *pack.Writer, numbers ...int) {
	for _, n := range numbers {
		w.Num(n)
	}
}

// putList writes how many servers there are, and each.
func putList(w *pack.Writer, servers []int) {
	w.Num(len(servers))
	putNums(w, servers...)
}

// readList reads what putList wrote.
func readList(r *pack.Reader) []int {
	var servers []int
	for range r.Num(mostHaving) {
		servers = append(servers, r.Num(mostServers-1))
	}
	return servers
}

// num reads a number of any size.
func num(r *pack.Reader) int { return r.Num(math.MaxInt) }

// readPolicy reads a policy's numbers. It need not be right: a command that says nothing of one has zeros.
func readPolicy(r *pack.Reader) api.Policy {
	return api.Policy{Reserve: num(r), Weight: num(r), Limit: num(r), Burst: num(r)}
}
