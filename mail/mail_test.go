package mail_test

import (
	"bytes"
	"math"
	"math/rand"
	"runtime"
	"slices"
	"strconv"
	"testing"

	"dotterel/api"
	"dotterel/mail"
)

// classes are all there are, the lowest first.
var classes = []int{0, 1, 2}

// noClasses are numbers that are no class, some of which are one when they are cut to fewer bits.
var noClasses = []int{-1, -2, -3, 3, 4, 255, 256, 1 << 16, 1<<16 + 1, 1 << 32, 1<<32 + 2, math.MinInt, math.MinInt + 1, math.MaxInt}

// rooms are some that a box may have, the least and the greatest among them.
var rooms = []int{1, 2, 3, 64, 4095, 4096}

// marked is a letter that is told from those of other marks by each of its parts.
func marked(mark int) api.Letter {
	return api.Letter{From: mark, To: -mark, B: []byte("letter " + strconv.Itoa(mark))}
}

func same(a, b api.Letter) bool { return a.From == b.From && a.To == b.To && bytes.Equal(a.B, b.B) }

func mustPost(t *testing.T, b *mail.Box, class int, l api.Letter) {
	t.Helper()
	if !b.Post(class, l) {
		t.Fatalf("class %d doesn't take letter %d", class, l.From)
	}
}

func mustRefuse(t *testing.T, b *mail.Box, class int, l api.Letter) {
	t.Helper()
	if b.Post(class, l) {
		t.Fatalf("class %d takes letter %d", class, l.From)
	}
}

// mustCome takes the next letter, which must be that one, of that class.
func mustCome(t *testing.T, b *mail.Box, class int, want api.Letter) {
	t.Helper()
	l, c, ok := b.Next()
	if !ok || c != class || !same(l, want) {
		t.Fatalf("next is %v, class %d, %v; not %v, class %d", l, c, ok, want, class)
	}
}

func mustHave(t *testing.T, b *mail.Box, lens ...int) {
	t.Helper()
	for class, n := range lens {
		if got := b.Len(class); got != n {
			t.Fatalf("class %d has %d letters, not %d", class, got, n)
		}
	}
}

func mustBeEmpty(t *testing.T, b *mail.Box) {
	t.Helper()
	for range 2 {
		l, class, ok := b.Next()
		if ok || class != 0 || l.From != 0 || l.To != 0 || l.B != nil {
			t.Fatalf("next of none is %v, class %d, %v", l, class, ok)
		}
	}
	mustHave(t, b, 0, 0, 0)
	if n := b.Drain(); n != 0 {
		t.Fatalf("of none go %d", n)
	}
}

// P8.1: a new box is empty; where its room is outside there is none.
func TestNew(t *testing.T) {
	for _, room := range rooms {
		b := mail.New(room)
		if b == nil {
			t.Fatalf("New(%d) is nil", room)
		}
		mustBeEmpty(t, b)
	}
	for _, room := range []int{0, -1, -4096, 4097, 1 << 16, 1<<16 + 1, 1 << 32, 1<<32 + 1, math.MinInt, math.MinInt + 1, math.MaxInt} {
		if mail.New(room) != nil {
			t.Errorf("New(%d) is a box", room)
		}
	}
}

// P8.1: each class has as much room as the box was made with, whatever the others have.
func TestRoom(t *testing.T) {
	for _, room := range rooms {
		b := mail.New(room)
		for _, class := range classes {
			for i := range room {
				mustHave(t, b, slices.Concat(slices.Repeat([]int{room}, class), []int{i})...)
				mustPost(t, b, class, marked(class*room+i))
			}
			mustRefuse(t, b, class, marked(-1))
			mustRefuse(t, b, class, api.Letter{})
		}
		mustHave(t, b, room, room, room)
		for i := range 3 * room {
			mustCome(t, b, i/room, marked(i))
		}
		mustBeEmpty(t, b)
	}
}

// P8.1: a letter that is taken makes room for one of its class, and for no other.
func TestRoomAgain(t *testing.T) {
	b := mail.New(2)
	for _, class := range classes {
		mustPost(t, b, class, marked(10*class))
		mustPost(t, b, class, marked(10*class+1))
	}
	mustCome(t, b, 0, marked(0))
	for _, class := range []int{2, 1} {
		mustRefuse(t, b, class, marked(99))
	}
	mustPost(t, b, 0, marked(2))
	mustRefuse(t, b, 0, marked(3))
	mustCome(t, b, 0, marked(1))
	mustCome(t, b, 0, marked(2))
	mustCome(t, b, 1, marked(10))
	mustRefuse(t, b, 2, marked(99))
	mustPost(t, b, 1, marked(12))
	mustHave(t, b, 0, 2, 2)
}

// P8.1: a box goes on for many times its room.
func TestGoesOn(t *testing.T) {
	for _, room := range []int{1, 3, 7} {
		b := mail.New(room)
		for i := range 2000 {
			class := i % 3
			for k := range room {
				mustPost(t, b, class, marked(i*room+k))
			}
			mustRefuse(t, b, class, marked(-1))
			for k := range room {
				mustCome(t, b, class, marked(i*room+k))
			}
			mustBeEmpty(t, b)
		}
	}
}

// P8.1: what is no class takes no letter, has none, and changes nothing.
func TestNoClass(t *testing.T) {
	b := mail.New(2)
	for _, class := range noClasses {
		mustRefuse(t, b, class, marked(1))
		if n := b.Len(class); n != 0 {
			t.Errorf("class %d has %d", class, n)
		}
	}
	mustBeEmpty(t, b)
	for _, class := range classes {
		mustPost(t, b, class, marked(class))
	}
	for _, class := range noClasses {
		mustRefuse(t, b, class, marked(9))
		if n := b.Len(class); n != 0 {
			t.Errorf("class %d has %d where each class has one", class, n)
		}
	}
	mustHave(t, b, 1, 1, 1)
	for _, class := range classes {
		mustCome(t, b, class, marked(class))
	}
	mustBeEmpty(t, b)
}

// P8.1: Len is told by class, and changes nothing.
func TestLen(t *testing.T) {
	b := mail.New(5)
	for class, n := range []int{1, 4, 2} {
		for i := range n {
			mustPost(t, b, class, marked(10*class+i))
		}
	}
	mustHave(t, b, 1, 4, 2)
	mustHave(t, b, 1, 4, 2)
	mustCome(t, b, 0, marked(0))
	mustHave(t, b, 0, 4, 2)
	mustCome(t, b, 1, marked(10))
	mustHave(t, b, 0, 3, 2)
	mustPost(t, b, 2, marked(22))
	mustHave(t, b, 0, 3, 3)
}

// P8.1: all letters go, of whichever classes; the box has all its room again, and its order.
func TestDrain(t *testing.T) {
	for _, lens := range [][]int{{1, 0, 0}, {0, 1, 0}, {0, 0, 1}, {1, 1, 1}, {4, 0, 4}, {0, 4, 4}, {4, 4, 0}, {2, 3, 1}, {4, 4, 4}} {
		b := mail.New(4)
		for class, n := range lens {
			for i := range n {
				mustPost(t, b, class, marked(10*class+i))
			}
		}
		if n, want := b.Drain(), lens[0]+lens[1]+lens[2]; n != want {
			t.Fatalf("of %v go %d, not %d", lens, n, want)
		}
		mustBeEmpty(t, b)
		for _, class := range []int{2, 1, 0} {
			for i := range 4 {
				mustPost(t, b, class, marked(100*class+i))
			}
			mustRefuse(t, b, class, marked(-1))
		}
		for i := range 12 {
			mustCome(t, b, i/4, marked(100*(i/4)+i%4))
		}
		mustBeEmpty(t, b)
	}
}

// P8.1: of the fullest box all go, also where some were taken ahead.
func TestDrainFull(t *testing.T) {
	b := mail.New(4096)
	for _, taken := range []int{0, 1, 4096, 5000, 12288} {
		for i := range 3 * 4096 {
			mustPost(t, b, i%3, api.Letter{From: i})
		}
		for range taken {
			b.Next()
		}
		if n := b.Drain(); n != 3*4096-taken {
			t.Fatalf("behind %d that were taken go %d", taken, n)
		}
		mustBeEmpty(t, b)
	}
}

// P8.2: the document's example.
func TestExample(t *testing.T) {
	b := mail.New(1)
	mustPost(t, b, 2, marked(1))
	mustPost(t, b, 0, marked(2))
	mustCome(t, b, 0, marked(2))
	mustCome(t, b, 2, marked(1))
	mustBeEmpty(t, b)
}

// P8.2: in whichever order classes are posted to, the lowest comes first.
func TestLowestFirst(t *testing.T) {
	for _, order := range [][]int{{0, 1, 2}, {0, 2, 1}, {1, 0, 2}, {1, 2, 0}, {2, 0, 1}, {2, 1, 0}, {0, 1}, {1, 0}, {0, 2}, {2, 0}, {1, 2}, {2, 1}} {
		// Many times: what comes hangs on no chance.
		for range 50 {
			b := mail.New(3)
			for _, class := range order {
				mustPost(t, b, class, marked(class))
			}
			for _, class := range slices.Sorted(slices.Values(order)) {
				mustCome(t, b, class, marked(class))
			}
			mustBeEmpty(t, b)
		}
	}
}

// P8.2: a lower letter that comes while higher ones wait is ahead of them; those go on in their order.
func TestLowerComesLate(t *testing.T) {
	b := mail.New(4)
	for i := range 4 {
		mustPost(t, b, 2, marked(20+i))
	}
	mustCome(t, b, 2, marked(20))
	mustPost(t, b, 1, marked(10))
	mustPost(t, b, 2, marked(24))
	mustPost(t, b, 1, marked(11))
	mustCome(t, b, 1, marked(10))
	mustPost(t, b, 0, marked(1))
	mustPost(t, b, 0, marked(2))
	mustCome(t, b, 0, marked(1))
	mustCome(t, b, 0, marked(2))
	mustCome(t, b, 1, marked(11))
	for i := range 4 {
		mustCome(t, b, 2, marked(21+i))
	}
	mustBeEmpty(t, b)
}

// P8.2: letters that are the same are as many, and letters keep their order whatever they have in them.
func TestLettersAsTheyAre(t *testing.T) {
	letters := []api.Letter{
		{},
		marked(5),
		marked(5),
		{From: math.MinInt, To: math.MaxInt},
		{From: math.MaxInt, To: math.MinInt, B: []byte{}},
		{From: -1, To: -1, B: []byte{0}},
		marked(5),
		{B: bytes.Repeat([]byte{0, 255}, 100000)},
		marked(4),
		{},
	}
	for _, class := range classes {
		b := mail.New(len(letters))
		for _, l := range letters {
			mustPost(t, b, class, l)
		}
		for _, l := range letters {
			mustCome(t, b, class, l)
		}
		mustBeEmpty(t, b)
	}
}

// R4: what is handed in is kept by its values, and not changed.
func TestKeepsNothingHandedIn(t *testing.T) {
	b := mail.New(3)
	text := []byte("as it was, and behind its length")
	l := api.Letter{From: 1, To: 2, B: text[:9]}
	mustPost(t, b, 1, l)
	mustPost(t, b, 1, l)
	if l.From != 1 || l.To != 2 || string(text) != "as it was, and behind its length" {
		t.Fatal("what is handed in is changed")
	}
	copy(text, "now it is")
	l.From, l.To = 8, 9
	mustPost(t, b, 1, api.Letter{From: 3, B: text[:9]})
	clear(text)
	want := api.Letter{From: 1, To: 2, B: []byte("as it was")}
	mustCome(t, b, 1, want)
	mustCome(t, b, 1, want)
	mustCome(t, b, 1, api.Letter{From: 3, B: []byte("now it is")})
}

// R4: what is answered may be written over, and written on behind its end: nothing else changes.
func TestAnswersAreApart(t *testing.T) {
	b := mail.New(4)
	text := []byte("one text, and more")
	for range 4 {
		mustPost(t, b, 0, api.Letter{B: text[:8]})
	}
	first, _, _ := b.Next()
	second, _, _ := b.Next()
	clear(first.B)
	_ = append(first.B, "something else that is long"...)
	_ = append(second.B, "something else"...)
	if string(text) != "one text, and more" || string(second.B) != "one text" {
		t.Fatalf("now %q was posted, and %q answered", text, second.B)
	}
	clear(second.B[:cap(second.B)])
	mustCome(t, b, 0, api.Letter{B: []byte("one text")})
	mustCome(t, b, 0, api.Letter{B: text[:8]})
	if string(text) != "one text, and more" {
		t.Fatalf("now %q was posted", text)
	}
}

// R4: an empty list's memory isn't kept either.
func TestEmptyBytesAreApart(t *testing.T) {
	b := mail.New(1)
	text := []byte("behind")
	mustPost(t, b, 0, api.Letter{B: text[:0]})
	l, _, ok := b.Next()
	if !ok || len(l.B) != 0 {
		t.Fatalf("%v %v", l, ok)
	}
	_ = append(l.B, "other"...)
	if string(text) != "behind" {
		t.Fatalf("now %q was posted", text)
	}
}

// P8.1: what is done to one box changes no other.
func TestBoxesAreApart(t *testing.T) {
	a, b := mail.New(1), mail.New(1)
	mustPost(t, a, 0, marked(1))
	mustBeEmpty(t, b)
	mustPost(t, b, 0, marked(2))
	mustPost(t, b, 1, marked(3))
	mustCome(t, a, 0, marked(1))
	mustBeEmpty(t, a)
	mustCome(t, b, 0, marked(2))
	mustCome(t, b, 1, marked(3))
}

// Chapter 8, Ways: no goroutine is begun.
func TestNoGoroutine(t *testing.T) {
	before := runtime.NumGoroutine()
	b := mail.New(2)
	for i := range 100 {
		b.Post(i%4, marked(i))
		b.Next()
	}
	b.Drain()
	if n := runtime.NumGoroutine(); n > before {
		t.Errorf("%d goroutines, and %d ahead", n, before)
	}
}

// model is a box as the document words it.
type model struct {
	room    int
	letters [3][]api.Letter
}

func (m *model) post(class int, l api.Letter) bool {
	if class < 0 || class > 2 || len(m.letters[class]) == m.room {
		return false
	}
	m.letters[class] = append(m.letters[class], l)
	return true
}

func (m *model) next() (api.Letter, int, bool) {
	for class, list := range m.letters {
		if len(list) > 0 {
			m.letters[class] = list[1:]
			return list[0], class, true
		}
	}
	return api.Letter{}, 0, false
}

func (m *model) drain() int {
	n := len(m.letters[0]) + len(m.letters[1]) + len(m.letters[2])
	m.letters = [3][]api.Letter{}
	return n
}

// P8.1 and P8.2: rows of calls are answered as worded, where letters pile up and where they are soon taken.
func TestAsWorded(t *testing.T) {
	for seed := range 60 {
		chance := rand.New(rand.NewSource(int64(seed)))
		room := 1 + chance.Intn(6)
		b, m := mail.New(room), &model{room: room}
		posts := 3 + chance.Intn(5)
		for step := range 2000 {
			asWorded(t, chance.Intn(10) < posts, chance, b, m, step)
			if chance.Intn(200) == 0 {
				if got, want := b.Drain(), m.drain(); got != want {
					t.Fatalf("seed %d, step %d: %d go, not %d", seed, step, got, want)
				}
			}
			mustHave(t, b, len(m.letters[0]), len(m.letters[1]), len(m.letters[2]))
		}
	}
}

func asWorded(t *testing.T, post bool, chance *rand.Rand, b *mail.Box, m *model, step int) {
	t.Helper()
	if post {
		class := chance.Intn(5) - 1
		if got, want := b.Post(class, marked(step)), m.post(class, marked(step)); got != want {
			t.Fatalf("step %d: class %d: %v, not %v", step, class, got, want)
		}
		return
	}
	l, class, ok := b.Next()
	wantL, wantClass, wantOk := m.next()
	if !same(l, wantL) || class != wantClass || ok != wantOk {
		t.Fatalf("step %d: %v, class %d, %v; not %v, class %d, %v", step, l, class, ok, wantL, wantClass, wantOk)
	}
}
