package heap_test

import (
	"cmp"
	"maps"
	"math"
	"math/rand"
	"slices"
	"testing"

	"dotterel/heap"
)

// numbers are names and keys at the edges of their kind, and some that are like one another when they are cut to fewer bits or told apart by a difference that goes round.
var numbers = []int{math.MinInt, math.MinInt + 1, -1 << 62, -1<<32 - 1, -1 << 32, -1 << 31, -256, -2, -1, 0, 1, 2, 255, 256, 1 << 31, 1 << 32, 1<<32 + 1, 1 << 53, 1<<53 + 1, 1 << 62, math.MaxInt - 1, math.MaxInt}

// model has the keys by their names: a heap as the document words it.
type model map[int]int

// all are the names as they must come: by their keys, and of one key by themselves.
func (m model) all() []int {
	return slices.SortedFunc(maps.Keys(m), func(a, b int) int {
		return cmp.Or(cmp.Compare(m[a], m[b]), cmp.Compare(a, b))
	})
}

// heapOf has these entries, set in this order: names and keys in turn.
func heapOf(entries ...int) *heap.Heap {
	h := &heap.Heap{}
	for i := 0; i < len(entries); i += 2 {
		h.Set(entries[i], entries[i+1])
	}
	return h
}

func mustDrop(t *testing.T, h *heap.Heap, name int) {
	t.Helper()
	if !h.Drop(name) {
		t.Fatalf("no entry %d to drop", name)
	}
}

func mustHaveNone(t *testing.T, h *heap.Heap, name int) {
	t.Helper()
	if key, ok := h.Key(name); key != 0 || ok {
		t.Fatalf("entry %d, which isn't there, has key %d, %v", name, key, ok)
	}
	if h.Drop(name) {
		t.Fatalf("entry %d, which isn't there, is dropped", name)
	}
}

// mustBe looks at all that a heap tells; some names that it must not have are looked at, too.
func mustBe(t *testing.T, h *heap.Heap, m model) {
	t.Helper()
	want := m.all()
	if got := h.All(); !slices.Equal(got, want) {
		t.Fatalf("all are %v, not %v", got, want)
	}
	if h.Len() != len(m) {
		t.Fatalf("%d entries, not %d", h.Len(), len(m))
	}
	mustHaveKeys(t, h, m)
	name, key, ok := h.Least()
	if len(want) == 0 {
		if name != 0 || key != 0 || ok {
			t.Fatalf("of none the least is %d, key %d, %v", name, key, ok)
		}
		return
	}
	if name != want[0] || key != m[name] || !ok {
		t.Fatalf("least is %d, key %d, %v; not %d, key %d", name, key, ok, want[0], m[want[0]])
	}
}

func mustHaveKeys(t *testing.T, h *heap.Heap, m model) {
	t.Helper()
	for name, key := range m {
		if got, ok := h.Key(name); got != key || !ok {
			t.Fatalf("entry %d has key %d, %v; not %d", name, got, ok, key)
		}
	}
	for _, name := range numbers {
		if _, ok := m[name]; !ok {
			mustHaveNone(t, h, name)
		}
	}
}

// mustRunOut takes all entries least by least: each must be told as the model has it, and come behind the one ahead.
func mustRunOut(t *testing.T, h *heap.Heap, m model) {
	t.Helper()
	for i, want := range m.all() {
		name, key, ok := h.Least()
		if name != want || key != m[want] || !ok {
			t.Fatalf("taken %d: least is %d, key %d, %v; not %d, key %d", i, name, key, ok, want, m[want])
		}
		mustDrop(t, h, name)
		if h.Len() != len(m)-i-1 {
			t.Fatalf("taken %d: %d entries are left of %d", i, h.Len(), len(m))
		}
	}
	mustBe(t, h, model{})
}

// P9.1: the zero heap has no entries, and nothing that is asked of it or dropped changes it.
func TestZero(t *testing.T) {
	var h heap.Heap
	for range 2 {
		mustBe(t, &h, model{})
	}
}

// P9.1: a heap of one entry, whatever its name and its key are.
func TestOne(t *testing.T) {
	for _, name := range numbers {
		for _, key := range numbers {
			h := heapOf(name, key)
			mustBe(t, h, model{name: key})
			mustDrop(t, h, name)
			mustBe(t, h, model{})
			h.Set(name, -key)
			mustBe(t, h, model{name: -key})
		}
	}
}

// P9.1: the document's example.
func TestExample(t *testing.T) {
	h := heapOf(5, 9, 3, 9)
	if name, key, ok := h.Least(); name != 3 || key != 9 || !ok {
		t.Fatalf("least is %d, key %d, %v", name, key, ok)
	}
	mustBe(t, h, model{5: 9, 3: 9})
}

// P9.1: one is ahead of another by its key, whatever the names are, and of one key by its name; in whichever order they come.
func TestAhead(t *testing.T) {
	for _, a := range numbers {
		for _, b := range numbers {
			mustBe(t, heapOf(7, a, 8, b), model{7: a, 8: b})
			mustBe(t, heapOf(8, a, 7, b), model{8: a, 7: b})
			if a != b {
				mustBe(t, heapOf(a, 7, b, 7), model{a: 7, b: 7})
				mustBe(t, heapOf(a, b, b, a), model{a: b, b: a})
			}
		}
	}
}

// P9.1: of each name there is at most one: a key that is set anew is the only one, at whichever place it then belongs.
func TestSetAnew(t *testing.T) {
	for name := range 9 {
		for key := -1; key <= 19; key++ {
			h, m := &heap.Heap{}, model{}
			for i := range 9 {
				h.Set(i, 2*i+1)
				m[i] = 2*i + 1
			}
			for range 2 {
				h.Set(name, key)
				m[name] = key
				mustBe(t, h, m)
			}
			h.Set(name, 2*name+1)
			m[name] = 2*name + 1
			mustBe(t, h, m)
			mustRunOut(t, h, m)
		}
	}
}

// P9.1: whichever entry goes, the others stay as they are; what has gone isn't there any more, and may come again.
func TestDrop(t *testing.T) {
	for many := 1; many <= 12; many++ {
		for name := range many {
			h, m := &heap.Heap{}, model{}
			for i := range many {
				h.Set(i, i*5%13)
				m[i] = i * 5 % 13
			}
			mustDrop(t, h, name)
			mustHaveNone(t, h, name)
			delete(m, name)
			mustBe(t, h, m)
			h.Set(name, 6)
			m[name] = 6
			mustBe(t, h, m)
			mustRunOut(t, h, m)
		}
	}
}

// P9.1: what is dropped is the last of a tree's other branch, and less than what stands above the place that is left.
func TestDropLeavesLess(t *testing.T) {
	h := heapOf(0, 0, 1, 50, 2, 1, 3, 60, 4, 70, 5, 2, 6, 3)
	mustDrop(t, h, 3)
	m := model{0: 0, 1: 50, 2: 1, 4: 70, 5: 2, 6: 3}
	mustBe(t, h, m)
	mustRunOut(t, h, m)
}

// P9.1 and P9.2: all small heaps: each row of keys, in which some are alike, set in the order of names and against it.
func TestSmallHeaps(t *testing.T) {
	const many, keys = 6, 4
	rows := 1
	for range many {
		rows *= keys
	}
	for row := range rows {
		up, down, m := &heap.Heap{}, &heap.Heap{}, model{}
		for name, left := 0, row; name < many; name, left = name+1, left/keys {
			m[name] = left % keys
			up.Set(name, m[name])
		}
		for name := many - 1; name >= 0; name-- {
			down.Set(name, m[name])
		}
		mustRunOut(t, up, m)
		mustRunOut(t, down, m)
	}
}

// P9.2: entries that come rising, falling, all alike, and mixed, are taken rising.
func TestTakenRising(t *testing.T) {
	const many = 3000
	for _, keyOf := range []func(i int) int{
		func(i int) int { return i },
		func(i int) int { return -i },
		func(int) int { return 5 },
		func(i int) int { return i % 7 },
		func(i int) int { return i * 7919 % many },
		func(i int) int { return numbers[i*5%len(numbers)] },
	} {
		h, m := &heap.Heap{}, model{}
		for i := range many {
			name := i * 1009 % many
			h.Set(name, keyOf(i))
			m[name] = keyOf(i)
		}
		mustBe(t, h, m)
		mustRunOut(t, h, m)
	}
}

// P9.2: what comes while others are taken stands at its place among those that are left.
func TestComesLate(t *testing.T) {
	h := heapOf(1, 10, 2, 20, 3, 30, 4, 40)
	mustDrop(t, h, 1)
	h.Set(5, 25)
	h.Set(6, 5)
	mustBe(t, h, model{2: 20, 3: 30, 4: 40, 5: 25, 6: 5})
	mustDrop(t, h, 6)
	mustDrop(t, h, 2)
	h.Set(1, 25)
	m := model{1: 25, 5: 25, 3: 30, 4: 40}
	mustBe(t, h, m)
	mustRunOut(t, h, m)
}

// R4: the list of all may be written over, and on behind its end: nothing else changes.
func TestAllIsApart(t *testing.T) {
	h := heapOf(1, 30, 2, 20, 3, 10)
	m := model{1: 30, 2: 20, 3: 10}
	first, second := h.All(), h.All()
	clear(first)
	_ = append(first, 7, 8, 9)
	if !slices.Equal(second, []int{3, 2, 1}) {
		t.Fatalf("the other list is now %v", second)
	}
	mustBe(t, h, m)
	h.Set(1, 0)
	mustDrop(t, h, 2)
	if !slices.Equal(second, []int{3, 2, 1}) {
		t.Fatalf("what was answered is now %v", second)
	}
}

// R6: what is asked changes nothing, and has one answer.
func TestAskedAgain(t *testing.T) {
	h, m := &heap.Heap{}, model{}
	for i := range 100 {
		h.Set(i, i%3)
		m[i] = i % 3
	}
	for range 20 {
		mustBe(t, h, m)
	}
	mustRunOut(t, h, m)
}

// P9.1: what is done to one heap changes no other.
func TestHeapsAreApart(t *testing.T) {
	a, b := heapOf(1, 1), heapOf(1, 2, 2, 1)
	mustBe(t, a, model{1: 1})
	mustDrop(t, a, 1)
	mustBe(t, a, model{})
	mustBe(t, b, model{1: 2, 2: 1})
}

// P9.1 and P9.2: rows of calls are answered as worded, where heaps grow and where they shrink, of few names and of many, of few keys and of many.
func TestAsWorded(t *testing.T) {
	for seed := range 60 {
		chance := rand.New(rand.NewSource(int64(seed)))
		names, keys := 1+chance.Intn(60), 1+chance.Intn(40)
		sets := 3 + chance.Intn(5)
		h, m := &heap.Heap{}, model{}
		for range 500 {
			name := chance.Intn(names) - names/2
			switch {
			case chance.Intn(10) < sets:
				key := chance.Intn(keys) - keys/2
				h.Set(name, key)
				m[name] = key
			default:
				_, want := m[name]
				delete(m, name)
				if got := h.Drop(name); got != want {
					t.Fatalf("seed %d: drop of %d: %v", seed, name, got)
				}
			}
			mustBe(t, h, m)
		}
		mustRunOut(t, h, m)
	}
}
