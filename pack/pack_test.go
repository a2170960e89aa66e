package pack_test

import (
	"bytes"
	"encoding/binary"
	"math"
	"testing"

	"dotterel/api"
	"dotterel/pack"
)

// numbers are those at which a byte more is needed, those beside them, and others.
func numbers() []int {
	list := []int{0, 1, 2, 5, 64, 100, 300, 1000, 65535, 65536, 1 << 20, 1 << 61, math.MaxInt32, math.MaxInt, math.MaxInt - 1, 0x0123456789abcdef}
	for bits := 7; bits < 63; bits += 7 {
		list = append(list, 1<<bits-1, 1<<bits, 1<<bits+1)
	}
	for bits := range 63 {
		list = append(list, 1<<bits, 1<<bits|1)
	}
	return list
}

// written is a number's bytes.
func written(n int) []byte {
	var w pack.Writer
	w.Num(n)
	return w.Bytes()
}

// asWorded is what the document's words ask of the number at the beginning of b: it, how many bytes it has, and the error.
func asWorded(b []byte, most int) (int, int, api.Errno) {
	going := 0
	for going < len(b) && b[going]&0x80 != 0 {
		going++
	}
	if going >= 9 {
		return 0, 0, api.ErrForm
	}
	if going == len(b) {
		return 0, 0, api.ErrShort
	}
	if b[going] == 0 && going != 0 {
		return 0, 0, api.ErrForm
	}
	n := 0
	for i := going; i >= 0; i-- {
		n = n*128 + int(b[i])%128
	}
	if n > most {
		return 0, 0, api.ErrRange
	}
	return n, going + 1, api.OK
}

// P3.1: the zero Writer has no fields.
func TestZeroWriter(t *testing.T) {
	var w pack.Writer
	if got := w.Bytes(); len(got) != 0 {
		t.Errorf("the zero Writer has % x", got)
	}
}

// P3.1: numbers whose bytes are known.
func TestNumKnown(t *testing.T) {
	for n, want := range map[int]string{
		0:                   "\x00",
		1:                   "\x01",
		127:                 "\x7f",
		128:                 "\x80\x01",
		255:                 "\xff\x01",
		256:                 "\x80\x02",
		300:                 "\xac\x02",
		16383:               "\xff\x7f",
		16384:               "\x80\x80\x01",
		1<<56 - 1:           "\xff\xff\xff\xff\xff\xff\xff\x7f",
		1 << 56:             "\x80\x80\x80\x80\x80\x80\x80\x80\x01",
		1 << 62:             "\x80\x80\x80\x80\x80\x80\x80\x80\x40",
		math.MaxInt:         "\xff\xff\xff\xff\xff\xff\xff\xff\x7f",
		-1:                  "\x00",
		-128:                "\x00",
		math.MinInt:         "\x00",
		math.MinInt + 1:     "\x00",
		-1 << 32:            "\x00",
		-math.MaxInt32 - 20: "\x00",
	} {
		if got := written(n); string(got) != want {
			t.Errorf("Num(%d) is % x, not % x", n, got, want)
		}
	}
}

// P3.1: all numbers, each against another writer of short numbers.
func TestNumAsWorded(t *testing.T) {
	for n := range 1 << 15 {
		if got, want := written(n), binary.AppendUvarint(nil, uint64(n)); !bytes.Equal(got, want) {
			t.Fatalf("Num(%d) is % x, not % x", n, got, want)
		}
	}
	for _, n := range numbers() {
		if got, want := written(n), binary.AppendUvarint(nil, uint64(n)); !bytes.Equal(got, want) {
			t.Errorf("Num(%d) is % x, not % x", n, got, want)
		}
	}
}

// P3.1: a text is how many bytes it has, then these.
func TestText(t *testing.T) {
	for _, size := range []int{0, 1, 2, 126, 127, 128, 129, 300, 16383, 16384, 100000} {
		text := bytes.Repeat([]byte{0, 0x80, 'x', 0xff, '\n'}, size/5+1)[:size]
		var w pack.Writer
		w.Text(text)
		want := append(binary.AppendUvarint(nil, uint64(size)), text...)
		if got := w.Bytes(); !bytes.Equal(got, want) {
			t.Errorf("Text of %d bytes is %d bytes: % x ..", size, len(got), got[:min(len(got), 8)])
		}
	}
	var w pack.Writer
	w.Text(nil)
	w.Text([]byte{})
	if got := w.Bytes(); string(got) != "\x00\x00" {
		t.Errorf("two empty texts are % x", got)
	}
}

// P3.1: all fields, one behind the other; asking for them changes nothing, and more may be written behind.
func TestFieldsInTheirOrder(t *testing.T) {
	var w pack.Writer
	w.Num(300)
	w.Text([]byte("ab"))
	for range 3 {
		if got := w.Bytes(); string(got) != "\xac\x02\x02ab" {
			t.Errorf("the fields are %q", got)
		}
	}
	w.Text(nil)
	w.Num(-7)
	w.Text([]byte{0})
	w.Num(128)
	if got := w.Bytes(); string(got) != "\xac\x02\x02ab\x00\x00\x01\x00\x80\x01" {
		t.Errorf("the fields are %q", got)
	}
	var other pack.Writer
	if got := other.Bytes(); len(got) != 0 {
		t.Errorf("another Writer has %q", got)
	}
}

// checkNum reads a number, and holds it and what is left against the document's words.
func checkNum(t *testing.T, b []byte, most int) {
	t.Helper()
	n, size, err := asWorded(b, most)
	r := pack.Read(b)
	if got := r.Num(most); got != n || r.Err() != err {
		t.Fatalf("% x: Num(%d) is %d, %v, not %d, %v", b, most, got, r.Err(), n, err)
	}
	end := err
	if err == api.OK && size < len(b) {
		end = api.ErrForm
	}
	if got := r.End(); got != end {
		t.Fatalf("% x: End behind Num(%d) is %v, not %v", b, most, got, end)
	}
	if end == api.OK && !bytes.Equal(written(n), b) {
		t.Fatalf("% x is read to its end as %d, whose bytes are % x", b, n, written(n))
	}
}

// P3.2, P3.3: all rows of up to two bytes, under many bounds.
func TestReadNumShortRows(t *testing.T) {
	bounds := []int{math.MinInt, -1, 0, 1, 127, 128, 1 << 13, math.MaxInt}
	for _, most := range bounds {
		checkNum(t, nil, most)
		for x := range 256 {
			checkNum(t, []byte{byte(x)}, most)
			for y := range 256 {
				checkNum(t, []byte{byte(x), byte(y)}, most)
			}
		}
	}
}

// P3.2, P3.3: rows of up to eleven bytes that go on, then end, or don't, in each way.
func TestReadNumLongRows(t *testing.T) {
	lasts := [][]byte{{}, {0}, {1}, {0x40}, {0x7f}, {0, 0}, {1, 0}, {0x7f, 0xff}, {0, 0x80}}
	for going := range 12 {
		for _, x := range []byte{0x80, 0x81, 0xc0, 0xff} {
			for _, last := range lasts {
				b := append(bytes.Repeat([]byte{x}, going), last...)
				for _, most := range append(numbers(), -1, math.MinInt) {
					checkNum(t, b, most)
				}
			}
		}
	}
}

// P3.2: errors of numbers by name, also where several hold.
func TestReadNumErrors(t *testing.T) {
	nine := bytes.Repeat([]byte{0x80}, 9)
	for _, c := range []struct {
		b    []byte
		most int
		want api.Errno
	}{
		{nil, 9, api.ErrShort},
		{nil, -1, api.ErrShort},
		{[]byte{0x80}, 9, api.ErrShort},
		{nine[:8], 9, api.ErrShort},
		{nine, 9, api.ErrForm}, // b ends, too
		{append(nine[:9:9], 0), 9, api.ErrForm},
		{append(nine[:9:9], 1), math.MaxInt, api.ErrForm},
		{append(nine[:9:9], 0x80), -1, api.ErrForm},
		{append(nine[:8:8], 0), 9, api.ErrForm},
		{append(nine[:8:8], 0x7f), math.MaxInt, api.OK},
		{[]byte{0x80, 0}, 9, api.ErrForm},
		{[]byte{0xff, 0}, -1, api.ErrForm}, // above most, too
		{[]byte{0}, -1, api.ErrRange},
		{[]byte{0}, math.MinInt, api.ErrRange},
		{[]byte{0}, 0, api.OK},
		{[]byte{1}, 0, api.ErrRange},
		{[]byte{10}, 10, api.OK},
		{[]byte{11}, 10, api.ErrRange},
		{[]byte{0xff, 0xff, 0xff, 0xff, 0xff, 0xff, 0xff, 0xff, 0x7f}, math.MaxInt - 1, api.ErrRange},
	} {
		r := pack.Read(c.b)
		if r.Num(c.most); r.Err() != c.want {
			t.Errorf("% x: Num(%d) is %v, not %v", c.b, c.most, r.Err(), c.want)
		}
	}
}

// P3.2: texts, and their errors in the order in which they are looked for.
func TestReadText(t *testing.T) {
	nine := string(bytes.Repeat([]byte{0xff}, 9))
	for _, c := range []struct {
		b    string
		most int
		want string
		err  api.Errno
		end  api.Errno
	}{
		{"\x00", 0, "", api.OK, api.OK},
		{"\x00", math.MaxInt, "", api.OK, api.OK},
		{"\x02ab", 2, "ab", api.OK, api.OK},
		{"\x02ab", math.MaxInt, "ab", api.OK, api.OK},
		{"\x02abc", 2, "ab", api.OK, api.ErrForm},
		{"\x02\x80\x00", 9, "\x80\x00", api.OK, api.OK},
		{"\x02ab", 1, "", api.ErrRange, api.ErrRange},
		{"\x02a", 1, "", api.ErrRange, api.ErrRange}, // b ends within it, too
		{"\x00", -1, "", api.ErrRange, api.ErrRange},
		{"\x02a", 2, "", api.ErrShort, api.ErrShort},
		{"\x01", 9, "", api.ErrShort, api.ErrShort},
		{"\x03ab", 9, "", api.ErrShort, api.ErrShort},
		{"", 9, "", api.ErrShort, api.ErrShort},
		{"\x82", 9, "", api.ErrShort, api.ErrShort},
		{"\x82\x00ab", 9, "", api.ErrForm, api.ErrForm},
		{nine, 9, "", api.ErrForm, api.ErrForm},
		{nine + "\x01", math.MaxInt, "", api.ErrForm, api.ErrForm},
		{nine[:8] + "\x7f", math.MaxInt, "", api.ErrShort, api.ErrShort},
		{nine[:8] + "\x7fabc", math.MaxInt, "", api.ErrShort, api.ErrShort},
		{nine[:8] + "\x7fabc", math.MaxInt - 1, "", api.ErrRange, api.ErrRange},
	} {
		r := pack.Read([]byte(c.b))
		if got := r.Text(c.most); string(got) != c.want || r.Err() != c.err || r.End() != c.end {
			t.Errorf("%q: Text(%d) is %q, %v, at its end %v, not %q, %v, %v", c.b, c.most, got, r.Err(), r.End(), c.want, c.err, c.end)
		}
	}
}

// P3.2: a text of any size, with and without its last byte.
func TestReadTextOfEachSize(t *testing.T) {
	for _, size := range []int{1, 127, 128, 129, 16384, 70000} {
		text := bytes.Repeat([]byte{7}, size)
		b := append(written(size), text...)
		r := pack.Read(b)
		if got := r.Text(size); !bytes.Equal(got, text) || r.End() != api.OK {
			t.Errorf("a text of %d bytes is read with %d, %v", size, len(got), r.End())
		}
		for _, gone := range []int{1, size} {
			r := pack.Read(b[:len(b)-gone])
			if got := r.Text(size); len(got) != 0 || r.Err() != api.ErrShort {
				t.Errorf("a text of %d bytes without %d is read with %d, %v", size, gone, len(got), r.Err())
			}
		}
	}
}

// P3.2: from the first error on nothing more is read, whatever is asked for, and the first error stays.
func TestFirstErrorIsKept(t *testing.T) {
	for _, c := range []struct {
		b    string
		most int
		text bool
		want api.Errno
	}{
		{"\x05\x01\x01a", 4, false, api.ErrRange},
		{"\x80\x00\x01\x01a", 9, false, api.ErrForm},
		{"\x80", 9, false, api.ErrShort},
		{"\x01\x01a", 0, true, api.ErrRange},
		{"\x80\x00\x01\x01a", 9, true, api.ErrForm},
		{"\x05\x01\x01a", 9, true, api.ErrShort},
		{"", 0, true, api.ErrShort},
	} {
		r := pack.Read([]byte(c.b))
		if c.text {
			r.Text(c.most)
		} else {
			r.Num(c.most)
		}
		for _, most := range []int{math.MaxInt, 0, -1} {
			if n := r.Num(most); n != 0 || r.Err() != c.want {
				t.Errorf("%q: behind %v, Num(%d) is %d, %v", c.b, c.want, most, n, r.Err())
			}
			if text := r.Text(most); len(text) != 0 || r.Err() != c.want {
				t.Errorf("%q: behind %v, Text(%d) is %q, %v", c.b, c.want, most, text, r.Err())
			}
			if r.End() != c.want {
				t.Errorf("%q: behind %v, End is %v", c.b, c.want, r.End())
			}
		}
	}
}

// P3.2: an error behind right fields; those ahead of it are as they were.
func TestErrorBehindFields(t *testing.T) {
	r := pack.Read([]byte("\x07\x02ab\x80\x01\x09\x01"))
	if n, text := r.Num(7), r.Text(2); n != 7 || string(text) != "ab" || r.Err() != api.OK {
		t.Fatalf("%d, %q, %v", n, text, r.Err())
	}
	if n := r.Num(128); n != 128 || r.Err() != api.OK || r.End() != api.ErrForm {
		t.Fatalf("%d, %v, %v", n, r.Err(), r.End())
	}
	if n := r.Num(8); n != 0 || r.Err() != api.ErrRange || r.End() != api.ErrRange {
		t.Fatalf("%d, %v, %v", n, r.Err(), r.End())
	}
}

// P3.2: End without an error: ErrForm if bytes are left, else none. It is no field: asking for it changes nothing.
func TestEnd(t *testing.T) {
	r := pack.Read([]byte("\x01\x00\x02ab"))
	for range 2 {
		if r.End() != api.ErrForm || r.Err() != api.OK {
			t.Fatalf("at the beginning: %v, %v", r.End(), r.Err())
		}
	}
	if r.Num(1) != 1 || r.End() != api.ErrForm || r.Num(0) != 0 || r.End() != api.ErrForm || string(r.Text(2)) != "ab" {
		t.Fatalf("behind End: %v", r.Err())
	}
	if r.End() != api.OK || r.Err() != api.OK {
		t.Fatalf("at the end: %v, %v", r.End(), r.Err())
	}
	if r.Num(9) != 0 || r.End() != api.ErrShort || r.Err() != api.ErrShort {
		t.Fatalf("behind the end: %v, %v", r.End(), r.Err())
	}
	for _, b := range [][]byte{nil, {}} {
		if r := pack.Read(b); r.End() != api.OK || r.Err() != api.OK {
			t.Errorf("of no bytes: %v, %v", r.End(), r.Err())
		}
	}
}

// P3.3: what is written is read as it was, and to its end.
func TestWrittenIsRead(t *testing.T) {
	var w pack.Writer
	for i, n := range numbers() {
		w.Num(n)
		w.Text(bytes.Repeat([]byte{byte(n)}, i*3))
		w.Num(-n)
	}
	r := pack.Read(w.Bytes())
	for i, n := range numbers() {
		text := bytes.Repeat([]byte{byte(n)}, i*3)
		if got := r.Num(n); got != n {
			t.Fatalf("%d is read as %d, %v", n, got, r.Err())
		}
		if got := r.Text(len(text)); !bytes.Equal(got, text) {
			t.Fatalf("% x is read as % x, %v", text, got, r.Err())
		}
		if got := r.Num(0); got != 0 || r.Err() != api.OK {
			t.Fatalf("%d, written as 0, is read as %d, %v", -n, got, r.Err())
		}
	}
	if r.End() != api.OK {
		t.Errorf("at the end: %v", r.End())
	}
}

// rewritten reads b as numbers and texts in turn, and writes what it read.
func rewritten(b []byte, text bool) ([]byte, api.Errno) {
	var w pack.Writer
	r := pack.Read(b)
	for r.Err() == api.OK && r.End() != api.OK {
		if text {
			w.Text(r.Text(math.MaxInt))
		} else {
			w.Num(r.Num(math.MaxInt))
		}
		text = !text
	}
	return w.Bytes(), r.End()
}

// P3.3: what is read to its end without an error has just these bytes: all rows of up to six of some bytes.
func TestReadIsWritten(t *testing.T) {
	right := 0
	var try func(b []byte)
	try = func(b []byte) {
		for _, text := range []bool{false, true} {
			got, err := rewritten(b, text)
			if err == api.OK {
				right++
				if !bytes.Equal(got, b) {
					t.Fatalf("% x is read to its end, but is % x", b, got)
				}
			}
		}
		if len(b) == 6 {
			return
		}
		for _, x := range []byte{0, 1, 2, 3, 0x7f, 0x80, 0x81, 0xff} {
			try(append(b[:len(b):len(b)], x))
		}
	}
	try(nil)
	if right < 1000 {
		t.Errorf("only %d rows are right", right)
	}
}

// P3.1, with the rule on memory: a Writer keeps no text but its bytes, and its answer is new each time.
func TestWriterMemory(t *testing.T) {
	whole := []byte("abcdef")
	var w pack.Writer
	w.Text(whole[:2])
	copy(whole, "XYZ")
	w.Text(whole[:1])
	if string(whole) != "XYZdef" {
		t.Errorf("what was handed in became %q", whole)
	}
	first, second := w.Bytes(), w.Bytes()
	clear(first[:cap(first)])
	if string(second) != "\x02ab\x01X" || string(w.Bytes()) != "\x02ab\x01X" {
		t.Errorf("writing over an answer made %q and %q", second, w.Bytes())
	}
	w.Num(5)
	clear(second[:cap(second)])
	if string(w.Bytes()) != "\x02ab\x01X\x05" {
		t.Errorf("writing over an answer made %q", w.Bytes())
	}
	third := w.Bytes()
	w.Num(6)
	third = append(third, 9)
	if string(third) != "\x02ab\x01X\x05\x09" || string(w.Bytes()) != "\x02ab\x01X\x05\x06" {
		t.Errorf("an answer and its Writer share: %q, %q", third, w.Bytes())
	}
}

// P3.2, with the rule on memory: a Reader keeps no bytes but their values, and reads none behind them.
func TestReaderMemory(t *testing.T) {
	whole := []byte("\x02ab\x01c\x07\x08")
	kept := bytes.Clone(whole)
	r := pack.Read(whole[:6])
	clear(whole)
	first := r.Text(9)
	clear(first[:cap(first)])
	if text, n := r.Text(9), r.Num(9); string(text) != "c" || n != 7 || r.End() != api.OK {
		t.Errorf("behind bytes that were written over: %q, %d, %v", text, n, r.End())
	}
	if r.Num(9) != 0 || r.Err() != api.ErrShort {
		t.Errorf("behind the length: %v", r.Err())
	}
	again := pack.Read(kept[:3])
	text := again.Text(9)
	if text = append(text, "XYZ"...); string(kept) != "\x02ab\x01c\x07\x08" {
		t.Errorf("%q: what was handed in became %q", text, kept)
	}
	for n := range 3 {
		if again := pack.Read(kept[:n]); len(again.Text(9)) != 0 || again.Err() != api.ErrShort {
			t.Errorf("a text is read behind the length: %v", again.Err())
		}
	}
}

// P3.2: readers of the same bytes are each for itself.
func TestReadersAreApart(t *testing.T) {
	b := []byte("\x01\x02")
	one, two := pack.Read(b), pack.Read(b)
	if one.Num(0); one.Err() != api.ErrRange || two.Err() != api.OK {
		t.Errorf("%v, %v", one.Err(), two.Err())
	}
	if two.Num(9) != 1 || two.Num(9) != 2 || two.End() != api.OK {
		t.Error(two.Err())
	}
}
