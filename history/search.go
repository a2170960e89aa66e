package history

import "dotterel/api"

// set has calls of a list: a bit for the place of each.
type set uint

func (s set) has(i int) bool      { return s>>i&1 == 1 }
func (s set) with(i int) set      { return s | 1<<i }
func (s set) isIn(other set) bool { return s&^other == 0 }

// state is how far an order is: how the calls that it has were placed makes no difference for those that come.
type state struct {
	placed set
	value  int
}

// search is for a witness of calls that are right.
type search struct {
	calls    []api.Call
	answered set
	ahead    []set // of each call, those that are ahead of it
}

func newSearch(l []api.Call) search {
	s := search{calls: l, ahead: make([]set, len(l))}
	for i, c := range l {
		if isAnswered(c) {
			s.answered = s.answered.with(i)
		}
		for k, other := range l {
			if isAhead(other, c) {
				s.ahead[i] = s.ahead[i].with(k)
			}
		}
	}
	return s
}

// step is the state behind at, when the call i comes next; false: it can't.
func (s search) step(at state, i int) (state, bool) {
	if at.placed.has(i) || !s.ahead[i].isIn(at.placed) {
		return state{}, false
	}
	value, ok := do(s.calls[i], at.value)
	return state{placed: at.placed.with(i), value: value}, ok
}

// run goes on with the first call that leads to a state that wasn't tried, and back where there is none.
func (s search) run() ([]int, bool) {
	tried := map[state]struct{}{}
	var order []int
	path := []state{{}} // one more than order has: also ahead of the first call
	next := 0
search:
	for {
		at := path[len(order)]
		if s.answered.isIn(at.placed) {
			break search
		}
		for i := next; i < len(s.calls); i++ {
			to, ok := s.step(at, i)
			if !ok {
				continue
			}
			if _, was := tried[to]; was {
				continue
			}
			tried[to] = struct{}{}
			order, path, next = append(order, i), append(path, to), 0
			continue search
		}
		if len(order) == 0 {
			return nil, false
		}
		last := len(order) - 1
		next = order[last] + 1
		order, path = order[:last], path[:last+1]
	}
	return order, true
}
