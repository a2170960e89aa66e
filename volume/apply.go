package volume

import (
	"cmp"
	"slices"

	"dotterel/api"
	"dotterel/policy"
)

// commands tell what each kind of command does. None looks for ErrRate: Apply does, behind all their other errors.
func commands() map[int]func(s *State, c api.Command) api.Errno {
	return map[int]func(s *State, c api.Command) api.Errno{
		api.CServer:  (*State).server,
		api.CCreate:  (*State).create,
		api.CDelete:  (*State).remove,
		api.CResize:  (*State).resize,
		api.CPolicy:  (*State).change,
		api.CDrop:    (*State).drop,
		api.CJoin:    (*State).join,
		api.CPromote: (*State).promote,
	}
}

// Apply does a command, or refuses it.
func (s *State) Apply(c api.Command) api.Errno {
	do, known := commands()[c.Kind]
	if !known {
		return api.ErrKind
	}
	// Done beside the state: what is refused changes nothing, whether it is told ahead or behind.
	then := *s
	if err := do(&then, c); err != api.OK {
		return err
	}
	if !then.admitted() {
		return api.ErrRate
	}
	*s = then
	return api.OK
}

// server gives the server A the capacity B.
func (s *State) server(c api.Command) api.Errno {
	if !within(c.A, 0, mostServers-1) || !isCapacity(c.B) {
		return api.ErrArg
	}
	s.picks[c.A] = c.B
	return api.OK
}

// create makes a volume A of B blocks, whose chunks have C members.
func (s *State) create(c api.Command) api.Errno {
	switch {
	case !within(c.A, 0, mostVolumes-1) || !areBlocks(c.B) || !within(c.C, 1, mostCopies) || !policy.Right(c.P):
		return api.ErrArg
	case s.volumes[c.A].blocks > 0:
		return api.ErrThere
	case len(s.Servers()) < c.C:
		return api.ErrNone
	}
	s.volumes[c.A] = volume{blocks: c.B, policy: c.P, version: 1}
	s.fill(c.A, c.C)
	return api.OK
}

// remove lets the volume A go.
func (s *State) remove(c api.Command) api.Errno {
	v, ok := s.volume(c.A)
	if !ok {
		return api.ErrNone
	}
	*v = volume{}
	return api.OK
}

// resize lets the volume A have B blocks.
func (s *State) resize(c api.Command) api.Errno {
	if !areBlocks(c.B) {
		return api.ErrArg
	}
	v, ok := s.volume(c.A)
	if !ok {
		return api.ErrNone
	}
	v.blocks = c.B
	// The first one stays, as there is a block at least.
	v.chunks = slices.Clone(v.chunks[:min(len(v.chunks), count(c.B))])
	s.fill(c.A, len(v.chunks[0].Members))
	return api.OK
}

// change gives the volume A the policy P.
func (s *State) change(c api.Command) api.Errno {
	if !policy.Right(c.P) {
		return api.ErrArg
	}
	v, ok := s.volume(c.A)
	if !ok {
		return api.ErrNone
	}
	v.policy = c.P
	v.version++
	return api.OK
}

// drop lets the server C have the chunk A no more.
func (s *State) drop(c api.Command) api.Errno {
	k, err := s.inEpoch(c.A, c.B)
	switch {
	case err != api.OK:
		return err
	case !has(k, c.C):
		return api.ErrArg
	case slices.Equal(k.Members, []int{c.C}):
		return api.ErrState
	}
	k.Members, k.Joining = without(k.Members, c.C), without(k.Joining, c.C)
	s.renew(k)
	return api.OK
}

// join lets the server C join those who have the chunk A.
func (s *State) join(c api.Command) api.Errno {
	if !s.isServer(c.C) {
		return api.ErrNone
	}
	k, err := s.inEpoch(c.A, c.B)
	switch {
	case err != api.OK:
		return err
	case has(k, c.C):
		return api.ErrThere
	case len(k.Members)+len(k.Joining) >= mostHaving:
		return api.ErrFull
	}
	k.Joining = append(k.Joining, c.C)
	s.renew(k)
	return api.OK
}

// promote makes the server C, which joins, a member of the chunk A.
func (s *State) promote(c api.Command) api.Errno {
	k, err := s.inEpoch(c.A, c.B)
	switch {
	case err != api.OK:
		return err
	case !slices.Contains(k.Joining, c.C):
		return api.ErrArg
	}
	k.Members, k.Joining = append(k.Members, c.C), without(k.Joining, c.C)
	s.renew(k)
	return api.OK
}

// inEpoch is a chunk by itself, in just that epoch.
func (s *State) inEpoch(id, epoch int) (api.Chunk, api.Errno) {
	k, ok := s.Chunk(id)
	switch {
	case !ok:
		return api.Chunk{}, api.ErrNone
	case k.Epoch != epoch:
		return api.Chunk{}, api.ErrEpoch
	}
	return k, api.OK
}

// renew lets a chunk be k, in the next epoch.
func (s *State) renew(k api.Chunk) {
	v, at, _ := s.find(k.Id)
	k.Epoch++
	v.chunks = slices.Clone(v.chunks)
	v.chunks[at] = k
}

// fill makes the chunks that a volume lacks, each with so many members.
func (s *State) fill(id, copies int) {
	v := &s.volumes[id]
	many := s.having()
	for len(v.chunks) < count(v.blocks) {
		s.made++
		members := s.fewest(many, copies)
		for _, server := range members {
			many[server]++
		}
		v.chunks = append(v.chunks, api.Chunk{Id: s.made, Volume: id, Epoch: 1, Members: members})
	}
}

// having is how many chunks each server has.
func (s *State) having() [mostServers]int {
	var many [mostServers]int
	for i := range s.volumes {
		for _, k := range s.volumes[i].chunks {
			for _, server := range slices.Concat(k.Members, k.Joining) {
				many[server]++
			}
		}
	}
	return many
}

// fewest are the servers that have the fewest chunks, so many of them, if there are; of like ones those of the least numbers come first.
func (s *State) fewest(many [mostServers]int, copies int) []int {
	var servers []int
	for _, l := range s.Servers() {
		servers = append(servers, l.Id)
	}
	slices.SortFunc(servers, func(a, b int) int {
		return cmp.Or(cmp.Compare(many[a], many[b]), cmp.Compare(a, b))
	})
	return servers[:min(copies, len(servers))]
}

// without is l, but id; l is used up.
func without(l []int, id int) []int {
	return slices.DeleteFunc(l, func(other int) bool { return other == id })
}

// isCapacity tells whether picks are a capacity: one has room for nothing, at least.
func isCapacity(picks int) bool { return policy.Admits(picks, nil) }

func areBlocks(n int) bool { return within(n, 1, mostBlocks) }
