package frames_test

import (
	"bytes"
	"encoding/binary"
	"hash/crc32"
	"math"
	"math/rand"
	"slices"
	"strconv"
	"testing"

	"dotterel/api"
	"dotterel/frames"
)

// sealed is b with its sum behind it, made apart from the program.
func sealed(b []byte) []byte {
	return binary.LittleEndian.AppendUint32(slices.Clone(b), crc32.ChecksumIEEE(b))
}

func number(b []byte, n int) []byte { return binary.AppendUvarint(b, uint64(n)) }

func text(b, t []byte) []byte { return append(number(b, len(t)), t...) }

// fieldsOf are m's fields as the document words them, whether m is right or not.
func fieldsOf(m api.Msg) []byte {
	b := number(nil, m.Kind)
	b = number(b, len(m.N))
	for _, n := range m.N {
		b = number(b, n)
	}
	b = text(b, m.B)
	b = number(b, len(m.L))
	for _, list := range m.L {
		b = text(b, list)
	}
	return b
}

func formOf(m api.Msg) []byte { return sealed(fieldsOf(m)) }

// model reads fields as the document words them.
type model struct {
	b   []byte
	err api.Errno
}

func (r *model) num(most int) int {
	if r.err != api.OK {
		return 0
	}
	size := 0
	for size < len(r.b) && r.b[size] > 127 {
		size++
	}
	switch {
	case size >= 9:
		r.err = api.ErrForm
		return 0
	case size == len(r.b):
		r.err = api.ErrShort
		return 0
	case size > 0 && r.b[size] == 0:
		r.err = api.ErrForm
		return 0
	}
	n, _ := binary.Uvarint(r.b)
	if n > uint64(most) {
		r.err = api.ErrRange
		return 0
	}
	r.b = r.b[size+1:]
	return int(n)
}

func (r *model) text(most int) []byte {
	n := r.num(most)
	if r.err != api.OK {
		return nil
	}
	if n > len(r.b) {
		r.err = api.ErrShort
		return nil
	}
	t := r.b[:n]
	r.b = r.b[n:]
	return t
}

// readAsWorded is what the document's words ask of Read.
func readAsWorded(b []byte) (api.Msg, api.Errno) {
	if len(b) < 4 || !bytes.Equal(sealed(b[:len(b)-4]), b) {
		return api.Msg{}, api.ErrSum
	}
	r := &model{b: b[:len(b)-4]}
	var m api.Msg
	m.Kind = r.num(40)
	for n := r.num(16); n > 0 && r.err == api.OK; n-- {
		m.N = append(m.N, r.num(1<<62))
	}
	m.B = r.text(2048)
	all := 0
	for n := r.num(64); n > 0 && r.err == api.OK; n-- {
		list := r.text(2048)
		all += len(list)
		m.L = append(m.L, list)
	}
	if r.err != api.OK {
		return api.Msg{}, r.err
	}
	if len(r.b) > 0 || m.Kind == 0 || all > 65536 {
		return api.Msg{}, api.ErrForm
	}
	return m, api.OK
}

// equal compares messages apart from the program.
func equal(a, b api.Msg) bool { return a.Kind == b.Kind && bytes.Equal(fieldsOf(a), fieldsOf(b)) }

func zero(m api.Msg) bool { return m.Kind == 0 && m.N == nil && m.B == nil && m.L == nil }

// filled is n bytes that look like no other list's.
func filled(n, seed int) []byte {
	b := make([]byte, n)
	rand.New(rand.NewSource(int64(seed))).Read(b)
	return b
}

// lists are as many lists as sizes are told.
func lists(sizes ...int) [][]byte {
	var l [][]byte
	for i, n := range sizes {
		l = append(l, filled(n, i+1000*n))
	}
	return l
}

func times(n, size int) []int { return slices.Repeat([]int{size}, n) }

// full is the greatest right message.
func full() api.Msg {
	return api.Msg{Kind: 40, N: times(16, 1<<62), B: filled(2048, 1), L: lists(append(times(32, 2048), times(32, 0)...)...)}
}

// rightMessages are ordinary ones, those at each edge, and a row of others.
func rightMessages() []api.Msg {
	list := []api.Msg{
		{Kind: 1},
		{Kind: 40},
		{Kind: 7, N: []int{0, 300}, B: []byte("ab"), L: [][]byte{{1}, nil}},
		{Kind: 1, N: []int{}, B: []byte{}, L: [][]byte{}},
		{Kind: 2, N: []int{0}},
		{Kind: 2, N: []int{1 << 62}},
		{Kind: 2, N: []int{1<<62 - 1, 127, 128, 16383, 16384, 1 << 56, 1<<56 - 1}},
		{Kind: 3, N: times(16, 5)},
		{Kind: 3, N: times(15, 1<<62)},
		{Kind: 4, B: []byte{0}},
		{Kind: 4, B: filled(127, 2)},
		{Kind: 4, B: filled(128, 3)},
		{Kind: 4, B: filled(2047, 4)},
		{Kind: 4, B: filled(2048, 5)},
		{Kind: 5, L: lists(0)},
		{Kind: 5, L: lists(2048)},
		{Kind: 5, L: lists(times(64, 0)...)},
		{Kind: 5, L: lists(times(64, 1)...)},
		{Kind: 5, L: lists(times(63, 7)...)},
		{Kind: 5, L: lists(times(64, 1024)...)},
		{Kind: 5, L: lists(times(32, 2048)...)},
		{Kind: 5, L: lists(append(times(31, 2048), 2047, 1)...)},
		{Kind: 5, L: lists(append(times(31, 2048), 2047)...)},
		// B is none of the lists: beside it these may have all they may have.
		{Kind: 6, B: filled(2048, 6), L: lists(times(32, 2048)...)},
		full(),
	}
	for kind := 1; kind <= 40; kind++ {
		list = append(list, api.Msg{Kind: kind, N: []int{kind}})
	}
	chance := rand.New(rand.NewSource(7))
	for range 300 {
		list = append(list, anyRight(chance))
	}
	return list
}

func anyRight(chance *rand.Rand) api.Msg {
	m := api.Msg{Kind: 1 + chance.Intn(40)}
	for range chance.Intn(17) {
		m.N = append(m.N, chance.Intn(1<<62)>>chance.Intn(62))
	}
	m.B = filled(chance.Intn(2049)>>chance.Intn(12), chance.Int())
	for range chance.Intn(65) {
		m.L = append(m.L, filled(chance.Intn(1025)>>chance.Intn(11), chance.Int()))
	}
	return m
}

// wrongMessages are beyond one edge each, and some beyond several.
func wrongMessages() map[string]api.Msg {
	return map[string]api.Msg{
		"the zero message":                 {},
		"kind 0, all else right":           {Kind: 0, N: []int{1}, B: []byte{1}, L: lists(1)},
		"kind 41":                          {Kind: 41},
		"kind -1":                          {Kind: -1},
		"kind 256":                         {Kind: 256},
		"kind 257":                         {Kind: 257},
		"the greatest kind":                {Kind: math.MaxInt},
		"the least kind":                   {Kind: math.MinInt},
		"kind 2^32 and 1":                  {Kind: 1<<32 + 1},
		"a number below 0":                 {Kind: 1, N: []int{-1}},
		"a last number below 0":            {Kind: 1, N: []int{0, 1, 2, -1}},
		"the least number":                 {Kind: 1, N: []int{math.MinInt}},
		"a number above 2^62":              {Kind: 1, N: []int{1<<62 + 1}},
		"a first number above 2^62":        {Kind: 1, N: []int{1<<62 + 1, 0}},
		"the greatest number":              {Kind: 1, N: []int{3, math.MaxInt}},
		"17 numbers":                       {Kind: 1, N: make([]int, 17)},
		"1,000 numbers":                    {Kind: 1, N: make([]int, 1000)},
		"2,049 bytes":                      {Kind: 1, B: make([]byte, 2049)},
		"100,000 bytes":                    {Kind: 1, B: make([]byte, 100000)},
		"65 lists":                         {Kind: 1, L: make([][]byte, 65)},
		"1,000 lists":                      {Kind: 1, L: make([][]byte, 1000)},
		"a list of 2,049 bytes":            {Kind: 1, L: lists(2049)},
		"a last list of 2,049 bytes":       {Kind: 1, L: lists(0, 5, 2049)},
		"a first list of 65,536 bytes":     {Kind: 1, L: lists(65536, 0)},
		"65,537 bytes in lists":            {Kind: 1, L: lists(append(times(32, 2048), 1)...)},
		"65,537 bytes in 64 lists":         {Kind: 1, L: lists(append(times(63, 1024), 1025)...)},
		"33 lists of 2,048":                {Kind: 1, L: lists(times(33, 2048)...)},
		"64 lists of 2,048":                {Kind: 1, L: lists(times(64, 2048)...)},
		"all right but kind, and it is 41": {Kind: 41, N: times(16, 1<<62), B: filled(2048, 1), L: lists(times(64, 1024)...)},
		"nothing right":                    {Kind: -1, N: times(17, -1), B: make([]byte, 2049), L: lists(times(65, 2049)...)},
	}
}

// P7.1: Check is OK for right messages, and ErrForm for the others.
func TestCheck(t *testing.T) {
	for i, m := range rightMessages() {
		if e := frames.Check(m); e != api.OK {
			t.Errorf("right message %d: %v", i, e)
		}
	}
	for name, m := range wrongMessages() {
		if e := frames.Check(m); e != api.ErrForm {
			t.Errorf("%s: %v", name, e)
		}
	}
}

// P7.1: the document's example, and another form byte by byte.
func TestPutKnown(t *testing.T) {
	for fields, m := range map[string]api.Msg{
		"\x01\x00\x00\x00":                                            {Kind: 1},
		"\x07\x02\x00\xac\x02\x02ab\x02\x01\x01\x00":                  {Kind: 7, N: []int{0, 300}, B: []byte("ab"), L: [][]byte{{1}, nil}},
		"\x28\x01\x80\x80\x80\x80\x80\x80\x80\x80\x40\x00\x01\x03xyz": {Kind: 40, N: []int{1 << 62}, L: [][]byte{[]byte("xyz")}},
	} {
		got, e := frames.Put(m)
		if want := sealed([]byte(fields)); e != api.OK || !bytes.Equal(got, want) {
			t.Errorf("%v: % x %v, not % x", m, got, e, want)
		}
	}
}

// P7.1: Put is the form of each right message, and Check's error for the others.
func TestPut(t *testing.T) {
	for i, m := range rightMessages() {
		got, e := frames.Put(m)
		if e != api.OK || !bytes.Equal(got, formOf(m)) {
			t.Errorf("right message %d: %v, and not its form", i, e)
		}
	}
	for name, m := range wrongMessages() {
		if got, e := frames.Put(m); e != api.ErrForm || len(got) != 0 {
			t.Errorf("%s: %d bytes, %v", name, len(got), e)
		}
	}
}

// P7.2: what is put is read as it was.
func TestReadAsPut(t *testing.T) {
	for i, m := range rightMessages() {
		b, _ := frames.Put(m)
		got, e := frames.Read(b)
		if e != api.OK || !equal(got, m) || !frames.Same(got, m) {
			t.Errorf("right message %d: %v, and not as it was put", i, e)
		}
	}
}

// P7.1: the first wrong field is told, ahead of kind 0 and of lists that are too long in all.
func TestReadErrors(t *testing.T) {
	tooLong := fieldsOf(api.Msg{Kind: 1, L: lists(times(33, 2048)...)})
	moreToCome := slices.Clone(tooLong)
	moreToCome[3] = 34
	for _, row := range []struct {
		name   string
		fields string
		want   api.Errno
	}{
		{"nothing", "", api.ErrShort},
		{"kind 0 alone", "\x00", api.ErrShort},
		{"kind 0, all else there", "\x00\x00\x00\x00", api.ErrForm},
		{"kind 0, a list is short", "\x00\x00\x00\x01\x02x", api.ErrShort},
		{"kind 0, 17 numbers", "\x00\x11", api.ErrRange},
		{"kind 0, bytes left", "\x00\x00\x00\x00\x00", api.ErrForm},
		{"kind 0, written with two bytes", "\x80\x00\x00\x00\x00", api.ErrForm},
		{"kind 1, written with two bytes", "\x81\x00\x00\x00\x00", api.ErrForm},
		{"kind 40", "\x28\x00\x00\x00", api.OK},
		{"kind 41", "\x29\x00\x00\x00", api.ErrRange},
		{"kind 41 alone", "\x29", api.ErrRange},
		{"kind 41, then a wrong number", "\x29\x80\x00", api.ErrRange},
		{"kind of 9 bytes that go on", "\xff\xff\xff\xff\xff\xff\xff\xff\xff", api.ErrForm},
		{"kind of 8 bytes that go on", "\xff\xff\xff\xff\xff\xff\xff\xff", api.ErrShort},
		{"the greatest kind", "\xff\xff\xff\xff\xff\xff\xff\xff\x7f", api.ErrRange},
		{"kind alone", "\x01", api.ErrShort},
		{"16 numbers", "\x01\x10" + string(make([]byte, 16)) + "\x00\x00", api.OK},
		{"17 numbers", "\x01\x11" + string(make([]byte, 17)) + "\x00\x00", api.ErrRange},
		{"17 numbers that aren't there", "\x01\x11", api.ErrRange},
		{"2 numbers, one is there", "\x01\x02\x01", api.ErrShort},
		{"2 numbers that aren't there", "\x01\x02", api.ErrShort},
		{"2^62", "\x01\x01\x80\x80\x80\x80\x80\x80\x80\x80\x40\x00\x00", api.OK},
		{"2^62 and 1", "\x01\x01\x81\x80\x80\x80\x80\x80\x80\x80\x40\x00\x00", api.ErrRange},
		{"2^63 - 1", "\x01\x01\xff\xff\xff\xff\xff\xff\xff\xff\x7f\x00\x00", api.ErrRange},
		{"2^63 - 1, then a wrong number", "\x01\x02\xff\xff\xff\xff\xff\xff\xff\xff\x7f\x80\x00", api.ErrRange},
		{"a wrong number, then 2^63 - 1", "\x01\x02\x80\x00\xff\xff\xff\xff\xff\xff\xff\xff\x7f", api.ErrForm},
		{"a number of ten bytes", "\x01\x01\x80\x80\x80\x80\x80\x80\x80\x80\x80\x01\x00\x00", api.ErrForm},
		{"no B", "\x01\x00", api.ErrShort},
		{"B is short", "\x01\x00\x03ab", api.ErrShort},
		{"B of 2,048, short", "\x01\x00\x80\x10", api.ErrShort},
		{"B of 2,049", "\x01\x00\x81\x10" + string(make([]byte, 2049)) + "\x00", api.ErrRange},
		{"B of 2,049, short", "\x01\x00\x81\x10", api.ErrRange},
		{"no lists told", "\x01\x00\x00", api.ErrShort},
		{"64 lists", "\x01\x00\x00\x40" + string(make([]byte, 64)), api.OK},
		{"64 lists, one isn't there", "\x01\x00\x00\x40" + string(make([]byte, 63)), api.ErrShort},
		{"65 lists", "\x01\x00\x00\x41" + string(make([]byte, 65)), api.ErrRange},
		{"65 lists that aren't there", "\x01\x00\x00\x41", api.ErrRange},
		{"a list of 2,049", "\x01\x00\x00\x01\x81\x10" + string(make([]byte, 2049)), api.ErrRange},
		{"a list of 2,049, short", "\x01\x00\x00\x01\x81\x10", api.ErrRange},
		{"a list is short", "\x01\x00\x00\x02\x01a\x02b", api.ErrShort},
		{"a list's size has two bytes for one", "\x01\x00\x00\x01\x81\x00a", api.ErrForm},
		{"a byte is left", "\x01\x00\x00\x00\x00", api.ErrForm},
		{"a message is left", "\x01\x00\x00\x00\x01\x00\x00\x00", api.ErrForm},
		{"65,536 in lists", string(fieldsOf(api.Msg{Kind: 1, L: lists(times(32, 2048)...)})), api.OK},
		{"65,537 in lists", string(fieldsOf(api.Msg{Kind: 1, L: lists(append(times(32, 2048), 1)...)})), api.ErrForm},
		{"33 lists of 2,048", string(tooLong), api.ErrForm},
		{"33 lists of 2,048, a byte is left", string(tooLong) + "\x00", api.ErrForm},
		{"33 lists of 2,048, one isn't there", string(moreToCome), api.ErrShort},
		{"33 lists of 2,048, and one of 2,049", string(moreToCome) + "\x81\x10" + string(make([]byte, 2049)), api.ErrRange},
		{"64 lists of 2,048", string(fieldsOf(api.Msg{Kind: 1, L: lists(times(64, 2048)...)})), api.ErrForm},
	} {
		m, e := frames.Read(sealed([]byte(row.fields)))
		if e != row.want || e != api.OK && !zero(m) {
			t.Errorf("%s: %v, not %v; kind %d beside it", row.name, e, row.want, m.Kind)
		}
		// The table is the document's, and so is the model that other tests lean on.
		if _, e := readAsWorded(sealed([]byte(row.fields))); e != row.want {
			t.Errorf("the model answers %v for %s", e, row.name)
		}
	}
}

// readIsAsWorded holds Read against the document's words.
func readIsAsWorded(t *testing.T, name string, b []byte) {
	t.Helper()
	got, e := frames.Read(b)
	want, wantE := readAsWorded(b)
	if e != wantE || !equal(got, want) || e != api.OK && !zero(got) {
		t.Errorf("%s: %v, not %v; kind %d, not %d", name, e, wantE, got.Kind, want.Kind)
	}
	if e != api.OK {
		return
	}
	if frames.Check(got) != api.OK {
		t.Errorf("%s: what is read isn't right", name)
	}
	if again, _ := frames.Put(got); !bytes.Equal(again, b) {
		t.Errorf("%s: it isn't the form of what is read", name)
	}
}

// P7.1: fields that end anywhere, or go on, are answered as worded.
func TestReadCuts(t *testing.T) {
	for i, m := range rightMessages()[:60] {
		fields := fieldsOf(m)
		step := 1 + len(fields)/400
		for n := 0; n <= len(fields); n += step {
			readIsAsWorded(t, "message "+strconv.Itoa(i)+" to byte "+strconv.Itoa(n), sealed(fields[:n]))
		}
		readIsAsWorded(t, "message "+strconv.Itoa(i)+" and a byte", sealed(append(fields, 1)))
	}
}

// P7.1, P1: all rows of up to two bytes as fields, and longer ones of small bytes.
func TestReadSmallRows(t *testing.T) {
	readIsAsWorded(t, "nothing", sealed(nil))
	for x := range 256 {
		readIsAsWorded(t, "one byte", sealed([]byte{byte(x)}))
		for y := range 256 {
			readIsAsWorded(t, "two bytes", sealed([]byte{byte(x), byte(y)}))
		}
	}
	bytesTried := []byte{0, 1, 2, 40, 41, 128, 129, 255}
	for n := range 1 << 15 {
		b := make([]byte, 5)
		for i := range b {
			b[i] = bytesTried[n>>(3*i)&7]
		}
		readIsAsWorded(t, strconv.Itoa(n), sealed(b))
	}
}

// P7.1: forms whose bytes are changed, and sealed anew, are answered as worded.
func TestReadChanged(t *testing.T) {
	chance := rand.New(rand.NewSource(11))
	read := 0
	for i := range 3000 {
		m := anyRight(chance)
		m.N = m.N[:min(len(m.N), 3)]
		m.B = m.B[:min(len(m.B), 5)]
		m.L = m.L[:min(len(m.L), 3)]
		b := fieldsOf(m)
		for range 1 + chance.Intn(2) {
			at := chance.Intn(min(len(b), 20))
			b[at] = [...]byte{0, 1, 127, 128, 255, b[at] + 1, b[at] - 1, byte(chance.Int())}[chance.Intn(8)]
		}
		readIsAsWorded(t, "changed form "+strconv.Itoa(i), sealed(b))
		if _, e := frames.Read(sealed(b)); e == api.OK {
			read++
		}
	}
	if read == 0 || read == 3000 {
		t.Errorf("%d of the changed forms are read: the test tells little", read)
	}
}

// P7.1: what layer 2 doesn't open is ErrSum, whatever its fields are.
func TestReadErrSum(t *testing.T) {
	form := formOf(api.Msg{Kind: 1})
	for name, b := range map[string][]byte{
		"nil":                     nil,
		"nothing":                 {},
		"three bytes":             {0, 0, 0},
		"four bytes":              {1, 0, 0, 0},
		"fields without a sum":    form[:4],
		"fields and half a sum":   form[:6],
		"the sum alone":           form[4:],
		"a byte behind":           append(slices.Clone(form), 0),
		"a byte ahead":            append([]byte{0}, form...),
		"the sum the other way":   {1, 0, 0, 0, form[7], form[6], form[5], form[4]},
		"wrong fields, no sum":    {41, 0, 0, 0, 0, 0, 0, 0},
		"fields under a sum of 0": {1, 0, 0, 0, 0, 0, 0, 0},
	} {
		if m, e := frames.Read(b); e != api.ErrSum || !zero(m) {
			t.Errorf("%s: %v, kind %d", name, e, m.Kind)
		}
	}
}

// turnBits turns the bits of pattern about in b, from bit at on; a byte's lowest bit is its first.
func turnBits(b []byte, at int, pattern uint32) []byte {
	b = slices.Clone(b)
	for i := range 32 {
		if pattern>>i&1 == 1 {
			b[(at+i)/8] ^= 1 << ((at + i) % 8)
		}
	}
	return b
}

// P7.2: bits turned, up to 32 in a row, are told at each place.
func TestReadTurned(t *testing.T) {
	chance := rand.New(rand.NewSource(13))
	for i, m := range []api.Msg{
		{Kind: 1},
		{Kind: 7, N: []int{0, 300}, B: []byte("ab"), L: [][]byte{{1}, nil}},
		{Kind: 40, N: times(16, 1<<62), B: filled(20, 1), L: lists(10, 20)},
	} {
		b, _ := frames.Put(m)
		for at := range len(b) * 8 {
			for width := 1; width <= min(32, len(b)*8-at); width++ {
				ends := uint32(1) | 1<<(width-1)
				all := uint32(1<<width - 1)
				for _, pattern := range []uint32{ends, all, ends | chance.Uint32()&all} {
					if got, e := frames.Read(turnBits(b, at, pattern)); e != api.ErrSum || !zero(got) {
						t.Fatalf("message %d, %032b from bit %d on: %v", i, pattern, at, e)
					}
				}
			}
		}
	}
}

// P7.1: Same compares kinds, numbers, bytes and lists, of any messages.
func TestSame(t *testing.T) {
	all := []api.Msg{
		{},
		{Kind: 1},
		{Kind: 2},
		{Kind: -1},
		{Kind: math.MinInt},
		{Kind: math.MaxInt},
		{Kind: 1 << 32},
		{Kind: 1, N: []int{0}},
		{Kind: 1, N: []int{0, 0}},
		{Kind: 1, N: []int{1}},
		{Kind: 1, N: []int{-1}},
		{Kind: 1, N: []int{1, 2}},
		{Kind: 1, N: []int{2, 1}},
		{Kind: 1, N: []int{1, 3}},
		{Kind: 1, N: make([]int, 17)},
		{Kind: 1, B: []byte{0}},
		{Kind: 1, B: []byte{0, 0}},
		{Kind: 1, B: []byte{1}},
		{Kind: 1, B: []byte("ab")},
		{Kind: 1, B: []byte("ac")},
		{Kind: 1, B: []byte("abc")},
		{Kind: 1, B: make([]byte, 2049)},
		{Kind: 1, L: [][]byte{{}}},
		{Kind: 1, L: [][]byte{{}, {}}},
		{Kind: 1, L: [][]byte{{0}}},
		{Kind: 1, L: [][]byte{{0}, {}}},
		{Kind: 1, L: [][]byte{{}, {0}}},
		{Kind: 1, L: [][]byte{[]byte("ab")}},
		{Kind: 1, L: [][]byte{[]byte("a"), []byte("b")}},
		{Kind: 1, L: [][]byte{[]byte("b"), []byte("a")}},
		{Kind: 1, L: [][]byte{[]byte("a"), []byte("c")}},
		{Kind: 1, L: [][]byte{[]byte("a"), []byte("b"), {}}},
		{Kind: 1, L: make([][]byte, 65)},
		{Kind: 1, N: []int{0}, B: []byte{0}, L: [][]byte{{0}}},
		{Kind: 1, N: []int{0}, B: []byte{0}, L: [][]byte{{1}}},
		{Kind: 1, N: []int{0}, B: []byte{1}, L: [][]byte{{0}}},
		{Kind: 1, N: []int{1}, B: []byte{0}, L: [][]byte{{0}}},
		{Kind: 2, N: []int{0}, B: []byte{0}, L: [][]byte{{0}}},
	}
	for i, a := range all {
		for j, b := range all {
			if got := frames.Same(a, copyOf(b)); got != (i == j) {
				t.Errorf("messages %d and %d: %v", i, j, got)
			}
		}
	}
}

func copyOf(m api.Msg) api.Msg {
	c := api.Msg{Kind: m.Kind, N: slices.Clone(m.N), B: slices.Clone(m.B)}
	for _, list := range m.L {
		c.L = append(c.L, slices.Clone(list))
	}
	return c
}

// R3: a nil list and one without elements are the same, in messages that are compared, put and read.
func TestNilLists(t *testing.T) {
	none := api.Msg{Kind: 3, L: [][]byte{nil, {1}, nil}}
	empty := api.Msg{Kind: 3, N: []int{}, B: []byte{}, L: [][]byte{{}, {1}, {}}}
	if !frames.Same(none, empty) || !frames.Same(empty, none) {
		t.Error("nil lists and empty ones aren't the same")
	}
	if !frames.Same(api.Msg{Kind: 3, L: [][]byte{}}, api.Msg{Kind: 3}) {
		t.Error("no lists and nil aren't the same")
	}
	a, _ := frames.Put(none)
	b, _ := frames.Put(empty)
	if !bytes.Equal(a, b) {
		t.Errorf("% x and % x", a, b)
	}
	if m, e := frames.Read(a); e != api.OK || !frames.Same(m, none) || !frames.Same(m, empty) {
		t.Errorf("%v %v", m, e)
	}
}

// roomy is b with bytes behind its length in its memory.
func roomy(b []byte) []byte {
	return append(slices.Clone(b), bytes.Repeat([]byte{0xee}, 64)...)[:len(b)]
}

func behind(b []byte) []byte { return b[len(b):cap(b)][:64] }

// R4: what is handed in stays as it is, also behind its lists' lengths.
func TestHandedIn(t *testing.T) {
	numbers := append([]int{1, 2}, times(16, -5)...)[:2]
	m := api.Msg{Kind: 9, N: numbers, B: roomy([]byte("abc")), L: [][]byte{roomy([]byte("d")), roomy(nil), roomy([]byte("ef"))}}
	was := copyOf(m)
	form, e := frames.Put(m)
	if e != api.OK || !bytes.Equal(form, formOf(was)) {
		t.Fatalf("% x %v", form, e)
	}
	frames.Check(m)
	frames.Same(m, m)
	if !equal(m, was) || !slices.Equal(numbers[2:18], times(16, -5)) {
		t.Error("the message was changed")
	}
	for _, list := range append([][]byte{m.B}, m.L...) {
		if !bytes.Equal(behind(list), bytes.Repeat([]byte{0xee}, 64)) {
			t.Error("what lies behind a list was changed")
		}
	}
	b := roomy(form)
	got, e := frames.Read(b)
	if e != api.OK || !equal(got, was) || !bytes.Equal(b, form) || !bytes.Equal(behind(b), bytes.Repeat([]byte{0xee}, 64)) {
		t.Error("what was read was changed, or not read as it was")
	}
}

// R4: an answer shares nothing with what was handed in, nor its lists with each other.
func TestAnswersMemory(t *testing.T) {
	m := api.Msg{Kind: 9, N: []int{1, 2}, B: []byte("abc"), L: lists(5, 0, 7, 9)}
	was := copyOf(m)
	form, _ := frames.Put(m)
	clear(m.N)
	clear(m.B)
	clear(m.L[0])
	clear(m.L)
	if !bytes.Equal(form, formOf(was)) {
		t.Error("a form changed with the message")
	}
	b := slices.Clone(form)
	got, _ := frames.Read(b)
	clear(b)
	if !equal(got, was) {
		t.Error("a message changed with the form")
	}
	again, _ := frames.Read(form)
	for i := range got.L {
		grown := append(got.L[i], bytes.Repeat([]byte{0xdd}, 40)...)
		clear(grown)
	}
	clear(append(got.B, bytes.Repeat([]byte{0xdd}, 40)...))
	for i := range got.L {
		clear(got.L[i])
		for j := i + 1; j < len(got.L); j++ {
			if !bytes.Equal(got.L[j], was.L[j]) {
				t.Fatalf("list %d changed with list %d", j, i)
			}
		}
	}
	if !equal(again, was) {
		t.Error("an answer changed with another")
	}
	second, _ := frames.Put(again)
	clear(form)
	if !bytes.Equal(second, formOf(was)) {
		t.Error("a form changed with another")
	}
}

// R6: the same call has the same answer, each time.
func TestSameAnswer(t *testing.T) {
	b := formOf(full())
	first, _ := frames.Read(b)
	for range 5 {
		m, e := frames.Read(b)
		put, _ := frames.Put(m)
		if e != api.OK || !equal(m, first) || !bytes.Equal(put, b) {
			t.Fatal("another answer")
		}
	}
}
