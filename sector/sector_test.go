package sector_test

import (
	"bytes"
	"math"
	"math/rand"
	"slices"
	"testing"

	"dotterel/api"
	"dotterel/sector"
)

// zeros are the bytes of a sector that was never written.
var zeros = make([]byte, api.SectorBytes)

// marked are the bytes of a sector, each told from the others of it and from those of other marks near by.
func marked(mark int) []byte {
	b := make([]byte, api.SectorBytes)
	for i := range b {
		b[i] = byte(mark*api.SectorBytes + i + 1)
	}
	return b
}

// outside are numbers that are no sector of a device of so many.
func outside(sectors int) []int {
	return []int{-1, sectors, sectors + 1, -sectors, api.MaxSectors, 1 << 32, math.MinInt, math.MaxInt}
}

// made is a device on which each sector i is sure as marked(i).
func made(t *testing.T, sectors int) *sector.Device {
	t.Helper()
	d := sector.New(sectors)
	for i := range sectors {
		mustWrite(t, d, i, marked(i))
	}
	mustFlush(t, d)
	return d
}

func mustWrite(t *testing.T, d *sector.Device, i int, b []byte) {
	t.Helper()
	if e := d.Write(i, b); e != api.OK {
		t.Fatalf("Write of sector %d: %v", i, e)
	}
}

func mustFlush(t *testing.T, d *sector.Device) {
	t.Helper()
	if e := d.Flush(); e != api.OK {
		t.Fatalf("Flush: %v", e)
	}
}

// mustHave holds a sector against what it should have.
func mustHave(t *testing.T, d *sector.Device, i int, want []byte) {
	t.Helper()
	if got, e := d.Read(i); e != api.OK || !bytes.Equal(got, want) {
		t.Fatalf("sector %d is %v, % x, not % x", i, e, got, want)
	}
}

// mustBeDown holds a device without power against all that is promised of one.
func mustBeDown(t *testing.T, d *sector.Device, sectors int) {
	t.Helper()
	if !d.Down() || d.Len() != sectors {
		t.Fatalf("without power: Down %v, Len %d", d.Down(), d.Len())
	}
	for _, i := range append(outside(sectors), 0) {
		if b, e := d.Read(i); b != nil || e != api.ErrDown {
			t.Fatalf("without power: Read(%d) is % x, %v", i, b, e)
		}
		for _, b := range [][]byte{marked(9), nil, zeros[1:]} {
			if e := d.Write(i, b); e != api.ErrCrash {
				t.Fatalf("without power: Write(%d) of %d bytes is %v", i, len(b), e)
			}
		}
	}
	if e := d.Flush(); e != api.ErrCrash {
		t.Fatalf("without power: Flush is %v", e)
	}
	if !d.Down() {
		t.Fatal("the power came of itself")
	}
}

// torn is what becomes of a sector of which the first bytes alone come, as many as keep says.
func torn(old, new []byte, keep int) []byte {
	kept := min(max(keep, 0), api.SectorBytes)
	return slices.Concat(new[:kept], old[kept:])
}

// P4.1: a new device has as many sectors as it was asked for, all 0, and the power is on.
func TestNew(t *testing.T) {
	for _, sectors := range []int{1, 2, 3, 63, 64, 65, 4095, api.MaxSectors} {
		d := sector.New(sectors)
		if d == nil || d.Len() != sectors || d.Down() {
			t.Fatalf("New(%d) isn't a device of so many", sectors)
		}
		for i := range sectors {
			mustHave(t, d, i, zeros)
		}
	}
	for _, sectors := range []int{0, -1, -64, api.MaxSectors + 1, 1 << 32, math.MinInt, math.MaxInt} {
		if d := sector.New(sectors); d != nil {
			t.Errorf("New(%d) is a device of %d", sectors, d.Len())
		}
	}
}

// P4.1: a new device has no fuse: it takes any number of writes and flushes.
func TestNewHasNoFuse(t *testing.T) {
	d := sector.New(2)
	for n := range 5000 {
		mustWrite(t, d, n%2, marked(n))
		mustHave(t, d, n%2, marked(n))
		if n%3 == 0 {
			mustFlush(t, d)
		}
	}
}

// P4.1: what is written is read at once, the last one of several; the other sectors stay.
func TestWriteIsRead(t *testing.T) {
	const sectors = 5
	d := made(t, sectors)
	for i := range sectors {
		for mark := 10; mark < 14; mark++ {
			mustWrite(t, d, i, marked(mark+i))
			mustHave(t, d, i, marked(mark+i))
		}
		for other := i + 1; other < sectors; other++ {
			mustHave(t, d, other, marked(other))
		}
	}
	for range 2 {
		for i := range sectors {
			mustHave(t, d, i, marked(13+i))
		}
		mustFlush(t, d)
	}
	last := sector.New(api.MaxSectors)
	mustWrite(t, last, api.MaxSectors-1, marked(1))
	mustHave(t, last, api.MaxSectors-1, marked(1))
	mustHave(t, last, 0, zeros)
}

// P4.1: sectors that there aren't, and bytes that aren't a sector's: ErrArg, and nothing is written.
func TestWrongWrites(t *testing.T) {
	for _, sectors := range []int{1, 3, api.MaxSectors - 1} {
		d := made(t, sectors)
		for _, i := range outside(sectors) {
			if e := d.Write(i, marked(7)); e != api.ErrArg {
				t.Errorf("of %d sectors: Write(%d) is %v", sectors, i, e)
			}
			if b, e := d.Read(i); b != nil || e != api.ErrArg {
				t.Errorf("of %d sectors: Read(%d) is % x, %v", sectors, i, b, e)
			}
		}
		for _, size := range []int{0, 1, 63, 65, 128, 4096} {
			if e := d.Write(0, bytes.Repeat([]byte{9}, size)); e != api.ErrArg {
				t.Errorf("Write of %d bytes is %v", size, e)
			}
		}
		if e := d.Write(0, nil); e != api.ErrArg {
			t.Errorf("Write of nil is %v", e)
		}
		if d.Down() || d.Len() != sectors {
			t.Errorf("behind wrong writes: Down %v, Len %d", d.Down(), d.Len())
		}
		for i := range sectors {
			mustHave(t, d, i, marked(i))
		}
	}
}

// P4.1: a wrong write is none of those that a Boot goes through.
func TestWrongWritesAreNotCounted(t *testing.T) {
	d := made(t, 2)
	d.Write(2, marked(20))
	mustWrite(t, d, 0, marked(10))
	d.Write(1, zeros[1:])
	d.Write(-1, marked(20))
	mustWrite(t, d, 1, marked(11))
	d.Boot([]int{3, 5})
	mustHave(t, d, 0, torn(marked(0), marked(10), 3))
	mustHave(t, d, 1, torn(marked(1), marked(11), 5))
}

// P4.1, P4.2: what was flushed is sure: no power takes it away.
func TestFlush(t *testing.T) {
	d := sector.New(3)
	mustWrite(t, d, 1, marked(1))
	mustWrite(t, d, 2, marked(2))
	mustWrite(t, d, 1, marked(3))
	mustFlush(t, d)
	for _, keeps := range [][]int{{0, 0, 0}, {-1, 5, 64}, nil} {
		d.Boot(keeps)
		mustHave(t, d, 0, zeros)
		mustHave(t, d, 1, marked(3))
		mustHave(t, d, 2, marked(2))
	}
	mustFlush(t, d) // of nothing
	mustHave(t, d, 1, marked(3))
}

// P4.1: a fuse of n lets n writes and flushes happen; the one behind these doesn't, and the power fails.
func TestFuse(t *testing.T) {
	for n := range 8 {
		for flushes := range n + 2 { // which one is a flush; the last: none
			d := made(t, n+1)
			d.Fuse(n)
			for k := range n {
				if k == flushes {
					mustFlush(t, d)
				} else {
					mustWrite(t, d, k, marked(20+k))
				}
			}
			if d.Down() {
				t.Fatalf("a fuse of %d has failed ahead of the one that comes at 0", n)
			}
			e := api.OK
			if flushes == n {
				e = d.Flush()
			} else {
				e = d.Write(n, marked(20+n))
			}
			if e != api.ErrCrash {
				t.Fatalf("what comes behind a fuse of %d is %v", n, e)
			}
			mustBeDown(t, d, n+1)
			d.Boot(make([]int, n)) // what isn't sure is gone
			for k := range n + 1 {
				want := marked(k)
				if k < flushes && flushes < n {
					want = marked(20 + k)
				}
				mustHave(t, d, k, want)
			}
		}
	}
}

// P4.1: the write that fails with the power doesn't happen, nor is it one of those that a Boot goes through.
func TestTheWriteAtTheFuse(t *testing.T) {
	for _, keeps := range [][]int{nil, {64, 64, 64}, {5}, {5, 64}} {
		d := made(t, 2)
		d.Fuse(1)
		mustWrite(t, d, 0, marked(10))
		if e := d.Write(1, marked(11)); e != api.ErrCrash {
			t.Fatalf("at the fuse: %v", e)
		}
		if e := d.Write(0, marked(12)); e != api.ErrCrash {
			t.Fatalf("behind the fuse: %v", e)
		}
		d.Boot(keeps)
		keep := api.SectorBytes
		if len(keeps) > 0 {
			keep = keeps[0]
		}
		mustHave(t, d, 0, torn(marked(0), marked(10), keep))
		mustHave(t, d, 1, marked(1))
	}
}

// P4.1: a wrong write burns the fuse too, and where it is 0, ErrCrash is what is answered.
func TestWrongWritesBurn(t *testing.T) {
	for _, wrong := range []func(*sector.Device) api.Errno{
		func(d *sector.Device) api.Errno { return d.Write(-1, marked(1)) },
		func(d *sector.Device) api.Errno { return d.Write(1, marked(1)) },
		func(d *sector.Device) api.Errno { return d.Write(0, nil) },
		func(d *sector.Device) api.Errno { return d.Write(0, zeros[1:]) },
		func(d *sector.Device) api.Errno { return d.Write(math.MaxInt, nil) },
	} {
		d := made(t, 1)
		d.Fuse(2)
		for range 2 {
			if e := wrong(d); e != api.ErrArg || d.Down() {
				t.Fatalf("within the fuse: %v, Down %v", e, d.Down())
			}
		}
		if e := wrong(d); e != api.ErrCrash {
			t.Fatalf("at the fuse: %v", e)
		}
		mustBeDown(t, d, 1)
	}
}

// P4.1: reads, and all but writes and flushes, burn no fuse, not even one of 0.
func TestWhatDoesNotBurn(t *testing.T) {
	for n := range 3 {
		d := made(t, 2)
		d.Fuse(n)
		for range 5 {
			mustHave(t, d, 1, marked(1))
			d.Read(2)
			d.Len()
			d.Down()
		}
		d.Wipe()
		for k := range n {
			mustWrite(t, d, k, marked(k))
		}
		if d.Down() {
			t.Fatalf("a fuse of %d was burned", n)
		}
		if e := d.Write(0, marked(7)); e != api.ErrCrash {
			t.Fatalf("a fuse of %d behind a Wipe: %v", n, e)
		}
	}
}

// P4.1: a fuse takes the place of the one before; one below 0 is none; a great one lasts.
func TestFuseAgain(t *testing.T) {
	for _, n := range []int{-1, -2, math.MinInt, math.MaxInt, 1000} {
		d := sector.New(1)
		d.Fuse(0)
		d.Fuse(n)
		for k := range 500 {
			mustWrite(t, d, 0, marked(k))
			mustFlush(t, d)
		}
	}
	d := sector.New(1)
	d.Fuse(1)
	mustFlush(t, d)
	d.Fuse(2)
	mustFlush(t, d)
	mustFlush(t, d)
	if e := d.Flush(); e != api.ErrCrash {
		t.Fatalf("behind the second fuse: %v", e)
	}
	for _, n := range []int{5, 0, -1, math.MinInt} { // it brings no power
		d.Fuse(n)
		mustBeDown(t, d, 1)
	}
}

// P4.1: behind a Boot the power is on, and there is no fuse, whatever there was.
func TestBootTakesTheFuse(t *testing.T) {
	for _, n := range []int{0, 1, 7, -1} {
		for _, fail := range []bool{false, true} {
			d := made(t, 2)
			if fail {
				d.Fuse(0)
				if e := d.Flush(); e != api.ErrCrash {
					t.Fatalf("a fuse of 0: %v", e)
				}
			}
			d.Fuse(n)
			d.Boot([]int{0})
			if d.Down() || d.Len() != 2 {
				t.Fatalf("behind a Boot: Down %v, Len %d", d.Down(), d.Len())
			}
			for k := range 20 {
				mustWrite(t, d, 1, marked(k))
				mustFlush(t, d)
			}
			mustHave(t, d, 0, marked(0))
			mustHave(t, d, 1, marked(19))
		}
	}
}

// P4.1, P4.2: of one write the first bytes come, from none to all; then all is sure. (Three bytes: the chapter's example.)
func TestBootKeeps(t *testing.T) {
	keeps := []int{-1, -64, math.MinInt, 65, 128, 1 << 32, math.MaxInt}
	for keep := range api.SectorBytes + 1 {
		keeps = append(keeps, keep)
	}
	for _, keep := range keeps {
		for _, fail := range []bool{false, true} {
			d := made(t, 3)
			mustWrite(t, d, 1, marked(10))
			if fail {
				d.Fuse(0)
				d.Flush()
			}
			d.Boot([]int{keep, 1, 2})
			for range 2 {
				mustHave(t, d, 0, marked(0))
				mustHave(t, d, 1, torn(marked(1), marked(10), keep))
				mustHave(t, d, 2, marked(2))
				d.Boot([]int{0, 0})
			}
		}
	}
}

// P4.1: writes without a number come whole.
func TestBootWithFewNumbers(t *testing.T) {
	for many := range 5 {
		d := made(t, 4)
		keeps := make([]int, many)
		for i := range 4 {
			mustWrite(t, d, i, marked(10+i))
			if i < many {
				keeps[i] = i + 1
			}
		}
		d.Boot(keeps)
		for i := range 4 {
			if i < many {
				mustHave(t, d, i, torn(marked(i), marked(10+i), i+1))
			} else {
				mustHave(t, d, i, marked(10+i))
			}
		}
	}
	d := made(t, 1)
	mustWrite(t, d, 0, marked(10))
	d.Boot(nil)
	mustHave(t, d, 0, marked(10))
}

// P4.1: several writes of one sector are gone through in their order: what one doesn't bring stays as the ones ahead left it.
func TestBootOfOneSector(t *testing.T) {
	some := []int{-1, 0, 1, 10, 31, 63, 64, 65}
	for _, a := range some {
		for _, b := range some {
			for _, c := range some {
				d := made(t, 2)
				mustWrite(t, d, 1, marked(10))
				mustWrite(t, d, 1, marked(11))
				mustWrite(t, d, 0, marked(12))
				d.Boot([]int{a, b, c})
				mustHave(t, d, 1, torn(torn(marked(1), marked(10), a), marked(11), b))
				mustHave(t, d, 0, torn(marked(0), marked(12), c))
			}
		}
	}
}

// P4.1: the numbers are of the writes since the last flush, Boot or Wipe alone.
func TestWhatIsCounted(t *testing.T) {
	for name, make := range map[string]func(*sector.Device){
		"Flush": func(d *sector.Device) { d.Flush() },
		"Boot":  func(d *sector.Device) { d.Boot(nil) },
		"Wipe":  func(d *sector.Device) { d.Wipe() },
	} {
		d := sector.New(2)
		mustWrite(t, d, 0, marked(5))
		mustWrite(t, d, 0, marked(6))
		make(d)
		old, _ := d.Read(0)
		mustWrite(t, d, 0, marked(7))
		mustWrite(t, d, 1, marked(8))
		d.Boot([]int{3, 5, 0, 0})
		if got, _ := d.Read(0); !bytes.Equal(got, torn(old, marked(7), 3)) {
			t.Errorf("behind %s: the first write is % x", name, got)
		}
		if got, _ := d.Read(1); !bytes.Equal(got, torn(zeros, marked(8), 5)) {
			t.Errorf("behind %s: the second write is % x", name, got)
		}
	}
}

// P4.1: a Wipe makes all sectors 0, for sure, also what isn't sure as yet; the power stays as it is.
func TestWipe(t *testing.T) {
	for _, fail := range []bool{false, true} {
		d := made(t, 4)
		mustWrite(t, d, 0, marked(10))
		mustWrite(t, d, 3, marked(11))
		if fail {
			d.Fuse(0)
			d.Flush()
		}
		d.Wipe()
		if d.Down() != fail || d.Len() != 4 {
			t.Fatalf("behind a Wipe: Down %v, Len %d", d.Down(), d.Len())
		}
		if fail {
			mustBeDown(t, d, 4)
		} else {
			for i := range 4 {
				mustHave(t, d, i, zeros)
			}
		}
		for _, keeps := range [][]int{nil, {64, 64, 64}, {3}} {
			d.Boot(keeps)
			for i := range 4 {
				mustHave(t, d, i, zeros)
			}
		}
		mustWrite(t, d, 3, marked(12))
		mustHave(t, d, 3, marked(12))
		mustHave(t, d, 2, zeros)
	}
}

// P4.1: a flush that fails makes nothing sure.
func TestFlushAtTheFuse(t *testing.T) {
	d := made(t, 1)
	mustWrite(t, d, 0, marked(10))
	d.Fuse(0)
	if e := d.Flush(); e != api.ErrCrash {
		t.Fatalf("at the fuse: %v", e)
	}
	d.Boot([]int{0})
	mustHave(t, d, 0, marked(0))
}

// R4: what is handed in is neither changed nor kept, nor is what lies behind its length.
func TestHandedInIsLeft(t *testing.T) {
	d := sector.New(2)
	memory := append(marked(1), 77, 78, 79)
	b := memory[:api.SectorBytes]
	mustWrite(t, d, 0, b)
	b[5] = 0xee
	mustHave(t, d, 0, marked(1))
	mustFlush(t, d)
	clear(b)
	mustHave(t, d, 0, marked(1))
	if !bytes.Equal(memory[api.SectorBytes:], []byte{77, 78, 79}) || !bytes.Equal(b, zeros) {
		t.Errorf("what was handed in is % x", memory)
	}
	mustWrite(t, d, 0, marked(2))
	mustWrite(t, d, 1, marked(3))
	mustWrite(t, d, 1, marked(4))
	room := []int{-5, 100, 7, 9}
	d.Boot(room[:2]) // behind its length: of the third write all comes
	if !slices.Equal(room, []int{-5, 100, 7, 9}) {
		t.Errorf("the numbers are %v", room)
	}
	mustHave(t, d, 0, marked(1))
	mustHave(t, d, 1, marked(4))
	room[0] = 64
	mustWrite(t, d, 0, marked(5))
	d.Boot([]int{0})
	mustHave(t, d, 0, marked(1))
}

// R4: what is read may be written over, and nothing else changes by it.
func TestAnswersAreFresh(t *testing.T) {
	d := made(t, 2)
	mustWrite(t, d, 1, marked(10))
	for i, want := range [][]byte{marked(0), marked(10)} { // one sure, one not
		one, _ := d.Read(i)
		two, _ := d.Read(i)
		one = append(one[:api.SectorBytes], 1, 2, 3)
		clear(one)
		clear(one[:cap(one)])
		if !bytes.Equal(two, want) {
			t.Errorf("sector %d, read before, is % x", i, two)
		}
		clear(two[:cap(two)])
		mustHave(t, d, i, want)
	}
	mustHave(t, d, 0, marked(0))
	d.Boot(nil)
	mustHave(t, d, 1, marked(10))
	kept, _ := d.Read(1)
	mustWrite(t, d, 1, marked(11))
	mustFlush(t, d)
	d.Wipe()
	if !bytes.Equal(kept, marked(10)) {
		t.Errorf("what was read has become % x", kept)
	}
}

// P4.1: two devices have nothing of each other.
func TestDevicesAreApart(t *testing.T) {
	one, two := made(t, 2), sector.New(2)
	mustWrite(t, two, 0, marked(9))
	one.Fuse(0)
	one.Flush()
	if two.Down() {
		t.Fatal("the power of another failed")
	}
	mustHave(t, two, 0, marked(9))
	two.Wipe()
	one.Boot(nil)
	mustHave(t, one, 0, marked(0))
	mustFlush(t, one)
}

// worded is a device as the document words it, but that each byte is looked for by itself.
type worded struct {
	sure   [][]byte
	writes []int // their sectors
	with   [][]byte
	fuse   int
	off    bool
}

// step is one write or flush: true: it comes at a fuse of 0, or without power.
func (w *worded) step() bool {
	w.off = w.off || w.fuse == 0
	if w.fuse > 0 {
		w.fuse--
	}
	return w.off
}

// byteOf is the byte at of sector i, when the power fails and comes with these keeps.
func (w *worded) byteOf(i, at int, keeps []int) byte {
	for k := len(w.writes) - 1; k >= 0; k-- {
		if w.writes[k] == i && (k >= len(keeps) || keeps[k] > at) {
			return w.with[k][at]
		}
	}
	return w.sure[i][at]
}

// all are all bytes, with these keeps.
func (w *worded) all(keeps []int) [][]byte {
	list := make([][]byte, len(w.sure))
	for i := range list {
		for at := range api.SectorBytes {
			list[i] = append(list[i], w.byteOf(i, at, keeps))
		}
	}
	return list
}

func (w *worded) settle(keeps []int) { w.sure, w.writes, w.with = w.all(keeps), nil, nil }

func (w *worded) write(i int, b []byte) api.Errno {
	if w.step() {
		return api.ErrCrash
	}
	if i < 0 || i >= len(w.sure) || len(b) != 64 {
		return api.ErrArg
	}
	w.writes, w.with = append(w.writes, i), append(w.with, bytes.Clone(b))
	return api.OK
}

func (w *worded) flush() api.Errno {
	if w.step() {
		return api.ErrCrash
	}
	w.settle(nil)
	return api.OK
}

// check holds the whole device against the words.
func (w *worded) check(t *testing.T, d *sector.Device) {
	t.Helper()
	if d.Down() != w.off || d.Len() != len(w.sure) {
		t.Fatalf("Down is %v, not %v; Len %d", d.Down(), w.off, d.Len())
	}
	for i, want := range w.all(nil) {
		if w.off {
			if b, e := d.Read(i); b != nil || e != api.ErrDown {
				t.Fatalf("Read without power is % x, %v", b, e)
			}
			continue
		}
		mustHave(t, d, i, want)
	}
}

// turn makes one of the calls at both.
func (w *worded) turn(t *testing.T, d *sector.Device, r *rand.Rand) {
	t.Helper()
	switch n := r.Intn(100); {
	case n < 70:
		i, b := r.Intn(len(w.sure)+2)-1, marked(r.Intn(256))
		r.Read(b)
		if r.Intn(20) == 0 {
			b = b[:r.Intn(65)]
		}
		if got, want := d.Write(i, b), w.write(i, b); got != want {
			t.Fatalf("Write(%d) of %d bytes is %v, not %v", i, len(b), got, want)
		}
	case n < 75:
		if got, want := d.Flush(), w.flush(); got != want {
			t.Fatalf("Flush is %v, not %v", got, want)
		}
	case n < 83:
		w.fuse = r.Intn(12) - 1
		d.Fuse(w.fuse)
	case n < 99:
		keeps := make([]int, r.Intn(12))
		for k := range keeps {
			keeps[k] = r.Intn(72) - 4
		}
		w.settle(keeps)
		w.off, w.fuse = false, -1
		d.Boot(keeps)
	default:
		w.settle(nil)
		for _, b := range w.sure {
			clear(b)
		}
		d.Wipe()
	}
	w.check(t, d)
}

// P4.1, P4.2: many calls of all kinds, each against the document's words.
func TestAsWorded(t *testing.T) {
	for seed := range 60 {
		r := rand.New(rand.NewSource(int64(seed)))
		sectors := 1 + r.Intn(5)
		d, w := sector.New(sectors), &worded{fuse: -1}
		for range sectors {
			w.sure = append(w.sure, make([]byte, 64))
		}
		w.check(t, d)
		for range 400 {
			w.turn(t, d, r)
		}
	}
}

// P4.2: a sector that is sure stays through any number of Boots, writes of others and failures, until it is written itself.
func TestSureStays(t *testing.T) {
	d := made(t, 4)
	for n := range 300 {
		d.Fuse(n % 5)
		for k := range 4 {
			d.Write(k%3, marked(30+n+k))
		}
		d.Flush()
		d.Boot([]int{n % 65, n % 3})
		mustHave(t, d, 3, marked(3))
	}
	mustWrite(t, d, 3, marked(20))
	d.Boot([]int{7})
	mustHave(t, d, 3, torn(marked(3), marked(20), 7))
}
