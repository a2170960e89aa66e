package journal_test

import (
	"bytes"
	"encoding/binary"
	"hash/crc32"
	"math"
	"math/rand"
	"slices"
	"testing"

	"dotterel/api"
	"dotterel/journal"
	"dotterel/sector"
)

const sectorBytes = api.SectorBytes

// most is the greatest generation, and the greatest number.
const most = 1 << 40

var zeros = make([]byte, sectorBytes)

// short is a short number.
func short(n int) []byte { return binary.AppendUvarint(nil, uint64(n)) }

// fieldsOf are the fields of a record.
func fieldsOf(gen, n int, b []byte) []byte {
	return slices.Concat(short(gen), short(n), short(len(b)), b)
}

// framed is a record's form around whatever is sealed, of any size.
func framed(fields []byte) []byte {
	rest := binary.LittleEndian.AppendUint32(bytes.Clone(fields), crc32.ChecksumIEEE(fields))
	form := append([]byte{1, byte(len(rest)), byte(len(rest) >> 8)}, rest...)
	for len(form)%sectorBytes != 0 {
		form = append(form, 0)
	}
	return form
}

// formed is a record's form, as the chapter words it.
func formed(gen, n int, b []byte) []byte { return framed(fieldsOf(gen, n, b)) }

// begun is a form with 0 in the place of its first byte.
func begun(form []byte) []byte {
	b := bytes.Clone(form)
	b[0] = 0
	return b
}

// filled are so many bytes, none of them 0, each told from those near by.
func filled(many, mark int) []byte {
	b := make([]byte, many)
	for i := range b {
		b[i] = byte(1 + (i*7+mark*13)%255)
	}
	return b
}

// bytesFor is how many bytes a text has at most in a record of so many sectors, of a generation and number below 128.
func bytesFor(sectors int) int {
	many := sectors*sectorBytes - 3 - 1 - 1 - 1 - 4
	if many > 127 {
		many--
	}
	return many
}

// lay writes bytes from a sector on, for sure.
func lay(t *testing.T, d *sector.Device, from int, b []byte) {
	t.Helper()
	for i := 0; i*sectorBytes < len(b); i++ {
		if e := d.Write(from+i, b[i*sectorBytes:(i+1)*sectorBytes]); e != api.OK {
			t.Fatalf("Write of sector %d: %v", from+i, e)
		}
	}
	if e := d.Flush(); e != api.OK {
		t.Fatalf("Flush: %v", e)
	}
}

// laid is a device that has these bytes from a sector on, and bytes that are no zeros in all others.
func laid(t *testing.T, sectors, from int, b []byte) *sector.Device {
	t.Helper()
	d := sector.New(sectors)
	for i := range sectors {
		lay(t, d, i, filled(sectorBytes, 100+i))
	}
	lay(t, d, from, b)
	return d
}

// image is all that a device has.
func image(t *testing.T, d *sector.Device) []byte {
	t.Helper()
	var all []byte
	for i := range d.Len() {
		b, e := d.Read(i)
		if e != api.OK {
			t.Fatalf("Read(%d): %v", i, e)
		}
		all = append(all, b...)
	}
	return all
}

// mustScan holds a Scan against the records that it should tell.
func mustScan(t *testing.T, d *sector.Device, from, many, gen int, want [][]byte) {
	t.Helper()
	sectors := 0
	for n, b := range want {
		sectors += len(formed(gen, n, b)) / sectorBytes
	}
	got, size, e := journal.Scan(d, from, many, gen)
	if e != api.OK || size != sectors || !slices.EqualFunc(got, want, bytes.Equal) {
		t.Fatalf("Scan(%d, %d, %d) tells %d records, %d sectors, %v, not %d, %d", from, many, gen, len(got), size, e, len(want), sectors)
	}
}

// mustOpen opens a journal, and holds what it tells against the records that it should.
func mustOpen(t *testing.T, d *sector.Device, from, many, gen int, want [][]byte) *journal.Journal {
	t.Helper()
	j, got, e := journal.Open(d, from, many, gen)
	if e != api.OK || j == nil || !slices.EqualFunc(got, want, bytes.Equal) {
		t.Fatalf("Open(%d, %d, %d) tells %d records, %v, not %d", from, many, gen, len(got), e, len(want))
	}
	return j
}

func mustAdd(t *testing.T, j *journal.Journal, b []byte) {
	t.Helper()
	if e := j.Add(b); e != api.OK {
		t.Fatalf("Add of %d bytes: %v", len(b), e)
	}
}

func mustFlush(t *testing.T, j *journal.Journal) {
	t.Helper()
	if e := j.Flush(); e != api.OK {
		t.Fatalf("Flush: %v", e)
	}
}

// mustBeDead holds a journal that isn't used any more against what is promised of it; no fuse is the device's own answer.
func mustBeDead(t *testing.T, d *sector.Device, j *journal.Journal) {
	t.Helper()
	d.Fuse(-1)
	var before []byte
	if !d.Down() {
		before = image(t, d)
	}
	for range 2 {
		for _, b := range [][]byte{nil, {1}, make([]byte, 1000), make([]byte, 5000)} {
			if e := j.Add(b); e != api.ErrCrash {
				t.Fatalf("Add of %d bytes to a dead journal: %v", len(b), e)
			}
		}
		if e := j.Flush(); e != api.ErrCrash {
			t.Fatalf("Flush of a dead journal: %v", e)
		}
	}
	if !d.Down() && !bytes.Equal(image(t, d), before) {
		t.Fatal("a dead journal has written")
	}
}

// P5.1: a form has its 1, its length, what is sealed, and zeros up to whole sectors.
func TestForm(t *testing.T) {
	numbers := []int{0, 1, 127, 128, 300, 1 << 14, 1<<35 - 1, 1 << 35, most - 1, most}
	for _, gen := range numbers {
		for _, n := range numbers {
			for _, size := range []int{0, 1, 3, 50, 55, 127, 128, 400, 1000} {
				b := filled(size, gen+n)
				if got, e := journal.Form(gen, n, b); e != api.OK || !bytes.Equal(got, formed(gen, n, b)) {
					t.Fatalf("Form(%d, %d) of %d bytes is %v, % x", gen, n, size, e, got)
				}
			}
		}
	}
	want := append([]byte{1, 10, 0, 3, 0, 3, 'o', 'n', 'e'}, 0, 0, 0, 0)
	binary.LittleEndian.PutUint32(want[9:], crc32.ChecksumIEEE(want[3:9]))
	if got, e := journal.Form(3, 0, []byte("one")); e != api.OK || !bytes.Equal(got, append(want, zeros[13:]...)) {
		t.Errorf("the form is %v, % x", e, got)
	}
	if got, _ := journal.Form(0, 0, filled(600, 0)); got[1] != byte(608&255) || got[2] != 608>>8 {
		t.Errorf("the length of 608 bytes is % x", got[1:3])
	}
}

// P5.1: a form has as many sectors as it needs, 16 at most; one byte more makes one more, or is beyond.
func TestFormSizes(t *testing.T) {
	if journal.MaxRecord != 16 {
		t.Fatalf("MaxRecord is %d", journal.MaxRecord)
	}
	for sectors := 1; sectors <= 16; sectors++ {
		fits := bytesFor(sectors)
		if got, e := journal.Form(5, 6, filled(fits, 1)); e != api.OK || len(got) != sectors*sectorBytes {
			t.Errorf("%d bytes: %v, %d bytes of form", fits, e, len(got))
		}
		got, e := journal.Form(5, 6, filled(fits+1, 1))
		if sectors < 16 && (e != api.OK || len(got) != (sectors+1)*sectorBytes) || sectors == 16 && (e != api.ErrLimit || got != nil) {
			t.Errorf("%d bytes: %v, %d bytes of form", fits+1, e, len(got))
		}
	}
	if got, e := journal.Form(most, most, filled(1003, 1)); e != api.OK || len(got) != 1024 {
		t.Errorf("1003 bytes of the greatest numbers: %v, %d bytes", e, len(got))
	}
	for _, many := range []int{1004, 1014, 1024, 1025, 65536, 70000, 1 << 24} {
		if got, e := journal.Form(most, most, make([]byte, many)); e != api.ErrLimit || got != nil {
			t.Errorf("%d bytes: %v, %d bytes", many, e, len(got))
		}
	}
}

// P5.1: generations and numbers outside, also beside too many bytes.
func TestFormRange(t *testing.T) {
	for _, wrong := range []int{-1, -most, most + 1, 1 << 41, math.MinInt, math.MaxInt} {
		for _, b := range [][]byte{nil, {1}, make([]byte, 5000)} {
			if got, e := journal.Form(wrong, 0, b); e != api.ErrRange || got != nil {
				t.Errorf("generation %d: %v", wrong, e)
			}
			if got, e := journal.Form(0, wrong, b); e != api.ErrRange || got != nil {
				t.Errorf("number %d: %v", wrong, e)
			}
		}
	}
}

// P5.1, P5.2: parts that aren't within the device, generations that are outside, no device: ErrArg, also without power; nothing is written.
func TestWrongParts(t *testing.T) {
	d := laid(t, 8, 2, formed(1, 0, []byte("one")))
	before := image(t, d)
	wrong := func(d *sector.Device, from, many, gen int) {
		t.Helper()
		if l, n, e := journal.Scan(d, from, many, gen); e != api.ErrArg || len(l) != 0 || n != 0 {
			t.Errorf("Scan(%d, %d, %d) is %v", from, many, gen, e)
		}
		if j, l, e := journal.Open(d, from, many, gen); e != api.ErrArg || j != nil || len(l) != 0 {
			t.Errorf("Open(%d, %d, %d) is %v", from, many, gen, e)
		}
	}
	all := func() {
		t.Helper()
		for _, part := range [][2]int{{-1, 2}, {-1, 1}, {0, -1}, {8, 1}, {9, 0}, {9, -1}, {0, 9}, {7, 2}, {4, 5}, {math.MaxInt, 1}, {1, math.MaxInt}, {math.MaxInt, math.MaxInt}, {math.MinInt, math.MaxInt}, {2, math.MinInt}, {math.MinInt, math.MinInt}, {math.MaxInt, 0}} {
			wrong(d, part[0], part[1], 1)
		}
		for _, gen := range []int{-1, most + 1, math.MinInt, math.MaxInt} {
			wrong(d, 2, 3, gen)
		}
	}
	wrong(nil, 0, 0, 0)
	wrong(nil, 0, 4, 1)
	all()
	if !bytes.Equal(image(t, d), before) {
		t.Error("a wrong call has written")
	}
	d.Fuse(0)
	d.Flush()
	all()
	for _, many := range []int{0, 1, 6} {
		if l, n, e := journal.Scan(d, 2, many, 1); e != api.ErrDown || len(l) != 0 || n != 0 {
			t.Errorf("Scan without power is %v", e)
		}
		if j, l, e := journal.Open(d, 2, many, 1); e != api.ErrDown || j != nil || len(l) != 0 {
			t.Errorf("Open without power is %v", e)
		}
	}
	d.Boot(nil)
	if !bytes.Equal(image(t, d), before) {
		t.Error("a call without power has written")
	}
}

// P5.1, P5.2: a part may be empty, at each place of the device.
func TestEmptyParts(t *testing.T) {
	d := laid(t, 4, 0, nil)
	before := image(t, d)
	for from := range 5 {
		mustScan(t, d, from, 0, 1, nil)
		j := mustOpen(t, d, from, 0, 1, nil)
		if j.Room() != 0 || j.Add(nil) != api.ErrFull || j.Flush() != api.OK {
			t.Errorf("an empty part at %d isn't full", from)
		}
	}
	if !bytes.Equal(image(t, d), before) {
		t.Error("an empty part was written")
	}
}

// P5.1: records of each size stand one behind the other, at each place of a device, of the least and the greatest generation.
func TestScan(t *testing.T) {
	for _, gen := range []int{0, 1, 127, 128, most} {
		var texts [][]byte
		var forms []byte
		for n, size := range []int{3, 0, 54, 55, 100, 127, 128, 500, 0, 1000, 1003, 1} {
			texts = append(texts, filled(size, n))
			forms = append(forms, formed(gen, n, texts[n])...)
		}
		used := len(forms) / sectorBytes
		for _, from := range []int{0, 1, 7} {
			d := laid(t, used+from+3, from, forms)
			mustScan(t, d, from, used, gen, texts)
			mustScan(t, d, from, used+3, gen, texts) // behind them, what is none
			mustScan(t, d, from, used-1, gen, texts[:len(texts)-1])
			if from > 0 {
				mustScan(t, d, from-1, used, gen, nil)
			}
			mustScan(t, d, from+1, used-1, gen, nil) // there a 1 stands where a 0 should
		}
	}
}

// P5.1: a whole device of records, whose numbers have one byte, then two.
func TestScanOfMany(t *testing.T) {
	var texts [][]byte
	var forms []byte
	for n := range api.MaxSectors {
		texts = append(texts, filled(n%50, n))
		forms = append(forms, formed(9, n, texts[n])...)
	}
	d := sector.New(api.MaxSectors)
	lay(t, d, 0, forms)
	mustScan(t, d, 0, api.MaxSectors, 9, texts)
	mustScan(t, d, 0, 1000, 9, texts[:1000])
	if j := mustOpen(t, d, 0, api.MaxSectors, 9, texts); j.Room() != 0 || j.Add(nil) != api.ErrFull {
		t.Errorf("the room is %d", j.Room())
	}
}

// P5.1: the part has to have all of a record.
func TestScanWithinThePart(t *testing.T) {
	text := filled(bytesFor(16), 4)
	d := laid(t, 20, 1, append(formed(2, 0, []byte("first")), formed(2, 1, text)...))
	for many := range 20 {
		want := [][]byte{[]byte("first"), text}
		switch {
		case many == 0:
			want = nil
		case many < 17:
			want = want[:1]
		}
		mustScan(t, d, 1, many, 2, want)
	}
	mustScan(t, d, 0, 20, 2, nil)
}

// P5.1: what stands at the first place where none stands ends the scan, whatever is behind it: here the second of three.
func TestScanEnds(t *testing.T) {
	const gen = 4
	text := filled(70, 2)
	right := formed(gen, 1, text)
	fields := fieldsOf(gen, 1, text)
	changed := func(at int, to byte) []byte {
		b := bytes.Clone(right)
		b[at] = to
		return b
	}
	for name, second := range map[string][]byte{
		"zeros":                          make([]byte, len(right)),
		"not whole":                      begun(right),
		"a first byte of 2":              changed(0, 2),
		"a first byte of 255":            changed(0, 255),
		"a length of one less":           changed(1, right[1]-1),
		"a length of one more":           changed(1, right[1]+1),
		"a length of 0":                  append([]byte{1, 0, 0}, right[3:]...),
		"a length of 3":                  append([]byte{1, 3, 0}, right[3:]...),
		"a length of 4, and its sum":     append([]byte{1, 4, 0}, make([]byte, 125)...),
		"a length beyond all":            append([]byte{1, 255, 255}, right[3:]...),
		"the generation ahead":           formed(gen-1, 1, text),
		"the generation behind":          formed(gen+1, 1, text),
		"the number ahead":               formed(gen, 0, text),
		"the number behind":              formed(gen, 2, text),
		"a generation beyond":            formed(most+1, 1, text),
		"a number beyond":                formed(gen, most+1, text),
		"more fields":                    framed(append(bytes.Clone(fields), 0)),
		"fewer fields":                   framed(short(gen)),
		"no fields":                      framed(nil),
		"a text cut short":               framed(fields[:len(fields)-1]),
		"another way to write the 4":     framed(append([]byte{gen | 128, 0}, fields[1:]...)),
		"another way to write the 1":     framed(slices.Concat(short(gen), []byte{129, 0}, fields[2:])),
		"another way to write the 70":    framed(slices.Concat(fields[:2], []byte{70 | 128, 0}, text)),
		"a last byte that isn't 0":       changed(len(right)-1, 1),
		"a byte behind the sum":          changed(3+len(fields)+4, 9),
		"a sector that hasn't come":      append(bytes.Clone(right[:sectorBytes]), zeros...),
		"a sector of another":            append(bytes.Clone(right[:sectorBytes]), formed(gen, 1, filled(70, 3))[sectorBytes:]...),
		"a first sector that hasn't":     append(bytes.Clone(zeros), right[sectorBytes:]...),
		"17 sectors":                     formed(gen, 1, filled(bytesFor(16)+1, 2)),
		"18 sectors":                     formed(gen, 1, filled(bytesFor(18), 2)),
		"a 1 alone, and nothing":         append([]byte{1}, make([]byte, 127)...),
		"a record without its two bytes": append([]byte{1}, right[3:]...),
	} {
		for len(second)%sectorBytes != 0 {
			second = append(second, 0)
		}
		first, third := formed(gen, 0, []byte("a")), formed(gen, 2, []byte("c"))
		d := laid(t, 24, 1, slices.Concat(first, second, third))
		if got, n, e := journal.Scan(d, 1, 23, gen); e != api.OK || len(got) != 1 || string(got[0]) != "a" || n != 1 {
			t.Errorf("%s: Scan tells %q, %d sectors, %v", name, got, n, e)
		}
		j := mustOpen(t, d, 1, 23, gen, [][]byte{[]byte("a")})
		if j.Room() != 22 {
			t.Errorf("%s: the room is %d", name, j.Room())
		}
		mustScan(t, d, 1, 23, gen, [][]byte{[]byte("a")})
	}
	d := laid(t, 8, 1, slices.Concat(formed(gen, 0, []byte("a")), right, formed(gen, 2, []byte("c"))))
	mustScan(t, d, 1, 7, gen, [][]byte{[]byte("a"), text, []byte("c")}) // else nothing was wrong with the others
}

// P5.1: a form with a bit turned, any one, is none.
func TestScanOfTurnedBits(t *testing.T) {
	first, second := []byte("first"), filled(100, 3)
	forms := append(formed(1, 0, first), formed(1, 1, second)...)
	for at := sectorBytes; at < len(forms); at++ {
		for bit := range 8 {
			b := bytes.Clone(forms)
			b[at] ^= 1 << bit
			d := sector.New(3)
			lay(t, d, 0, b)
			mustScan(t, d, 0, 3, 1, [][]byte{first})
		}
	}
	d := sector.New(3)
	lay(t, d, 0, forms)
	mustScan(t, d, 0, 3, 1, [][]byte{first, second})
}

// P5.1: the journal of one generation has nothing of the others.
func TestGenerations(t *testing.T) {
	d := laid(t, 4, 0, slices.Concat(formed(6, 0, []byte("a")), formed(7, 1, []byte("b")), formed(6, 2, []byte("c"))))
	mustScan(t, d, 0, 4, 6, [][]byte{[]byte("a")})
	mustScan(t, d, 0, 4, 7, nil)
	mustScan(t, d, 1, 3, 7, nil)
	mustScan(t, d, 0, 4, 0, nil)
}

// P5.1: a Scan writes nothing, and burns no fuse.
func TestScanOnlyReads(t *testing.T) {
	d := laid(t, 6, 1, formed(1, 0, []byte("a")))
	before := image(t, d)
	d.Fuse(0)
	for range 5 {
		mustScan(t, d, 1, 5, 1, [][]byte{[]byte("a")})
	}
	if d.Down() || !bytes.Equal(image(t, d), before) {
		t.Error("a Scan has written")
	}
}

// P5.2: behind its records a part is zeros when it is opened; what isn't in the part, and the records, stay.
func TestOpenClears(t *testing.T) {
	forms := append(formed(3, 0, filled(90, 1)), formed(3, 1, nil)...)
	d := laid(t, 12, 2, forms)
	before := image(t, d)
	j := mustOpen(t, d, 2, 7, 3, [][]byte{filled(90, 1), nil})
	want := slices.Concat(before[:5*sectorBytes], make([]byte, 4*sectorBytes), before[9*sectorBytes:])
	if j.Room() != 4 || !bytes.Equal(image(t, d), want) {
		t.Errorf("the room is %d, or the sectors aren't zeros", j.Room())
	}
	d.Boot([]int{0, 0, 0, 0, 0, 0}) // for sure
	if !bytes.Equal(image(t, d), want) {
		t.Error("the zeros weren't sure")
	}
	mustOpen(t, d, 2, 7, 4, nil) // of another generation: all
	if !bytes.Equal(image(t, d), slices.Concat(before[:2*sectorBytes], make([]byte, 7*sectorBytes), before[9*sectorBytes:])) {
		t.Error("the records of another generation stand")
	}
}

// P5.2: only sectors that aren't zeros are written, in their order, and all is flushed if there was one.
func TestOpenWrites(t *testing.T) {
	dirty := []int{2, 3, 5} // of the sectors from 1 to 6; a record stands in 1
	made := func() *sector.Device {
		d := sector.New(8)
		lay(t, d, 1, formed(1, 0, []byte("a")))
		for _, i := range dirty {
			b := make([]byte, sectorBytes)
			b[i*11] = 1 // one byte alone
			lay(t, d, i, b)
		}
		return d
	}
	for fuse := range 6 {
		d := made()
		clean := image(t, d)
		d.Fuse(fuse)
		j, l, e := journal.Open(d, 1, 6, 1)
		if fuse >= 4 { // three writes and a flush
			if e != api.OK || len(l) != 1 || j.Room() != 5 || d.Down() {
				t.Fatalf("with a fuse of %d: %v", fuse, e)
			}
			d.Boot(make([]int, 10))
			for _, i := range dirty {
				copy(clean[i*sectorBytes:], zeros)
			}
		} else {
			if e != api.ErrCrash || j != nil || len(l) != 0 || !d.Down() {
				t.Fatalf("with a fuse of %d: %v", fuse, e)
			}
			d.Boot(nil)
			for _, i := range dirty[:fuse] {
				copy(clean[i*sectorBytes:], zeros)
			}
		}
		if !bytes.Equal(image(t, d), clean) {
			t.Fatalf("with a fuse of %d other sectors were written", fuse)
		}
	}
	d := sector.New(8)
	lay(t, d, 1, formed(1, 0, []byte("a")))
	d.Fuse(0)
	if j, _, e := journal.Open(d, 1, 6, 1); e != api.OK || j == nil || d.Down() {
		t.Errorf("without a sector to write: %v", e)
	}
}

// P5.2: an added record stands behind all, all of it but its 1; a Scan doesn't tell it until it is flushed.
func TestAdd(t *testing.T) {
	const gen = 130
	d := laid(t, 40, 3, formed(gen, 0, []byte("old")))
	j := mustOpen(t, d, 3, 36, gen, [][]byte{[]byte("old")})
	want := image(t, d)
	told := [][]byte{[]byte("old")}
	var added [][]byte
	next := 4
	for n, size := range []int{3, 54, 55, 0, 120, 900, 1, 400} {
		text := filled(size, n)
		mustAdd(t, j, text)
		added = append(added, text)
		form := formed(gen, len(told)+len(added)-1, text)
		copy(want[next*sectorBytes:], begun(form))
		next += len(form) / sectorBytes
		if !bytes.Equal(image(t, d), want) || j.Room() != 39-next {
			t.Fatalf("behind an Add of %d bytes the device is another, or the room is %d", size, j.Room())
		}
		mustScan(t, d, 3, 36, gen, told)
		if n%3 != 2 {
			continue
		}
		mustFlush(t, j)
		at := 3
		told = append(told, added...)
		added = nil
		for k, text := range told {
			form := formed(gen, k, text)
			copy(want[at*sectorBytes:], form)
			at += len(form) / sectorBytes
		}
		if !bytes.Equal(image(t, d), want) || j.Room() != 39-next {
			t.Fatalf("behind a Flush the device is another, or the room is %d", j.Room())
		}
		mustScan(t, d, 3, 36, gen, told)
		d.Boot(make([]int, 50))
		mustScan(t, d, 3, 36, gen, told)
	}
}

// P5.2: what has no form, and what has no room, isn't added; less may be, behind it.
func TestAddLimits(t *testing.T) {
	d := sector.New(30)
	j := mustOpen(t, d, 1, 18, 2, nil)
	before := image(t, d)
	d.Fuse(0) // none of these writes
	for _, many := range []int{bytesFor(16) + 1, 1024, 1025, 1 << 20} {
		if e := j.Add(make([]byte, many)); e != api.ErrLimit {
			t.Errorf("Add of %d bytes: %v", many, e)
		}
	}
	if d.Down() || j.Room() != 18 || !bytes.Equal(image(t, d), before) {
		t.Error("what was refused was written")
	}
	d.Fuse(-1)
	mustAdd(t, j, filled(bytesFor(16), 1))
	before = image(t, d)
	d.Fuse(0)
	for _, many := range []int{bytesFor(2) + 1, bytesFor(3), bytesFor(16)} {
		if e := j.Add(make([]byte, many)); e != api.ErrFull || j.Room() != 2 {
			t.Errorf("Add of %d bytes: %v", many, e)
		}
	}
	if e := j.Add(make([]byte, bytesFor(16)+1)); e != api.ErrLimit { // ahead of ErrFull
		t.Errorf("what has neither form nor room: %v", e)
	}
	if d.Down() || !bytes.Equal(image(t, d), before) {
		t.Error("what was refused was written")
	}
	d.Fuse(-1)
	mustAdd(t, j, filled(bytesFor(2), 2))
	if j.Room() != 0 {
		t.Errorf("the room is %d", j.Room())
	}
	for _, b := range [][]byte{nil, {1}} {
		if e := j.Add(b); e != api.ErrFull {
			t.Errorf("Add to a full part: %v", e)
		}
	}
	mustFlush(t, j)
	mustScan(t, d, 1, 18, 2, [][]byte{filled(bytesFor(16), 1), filled(bytesFor(2), 2)})
	if b, _ := d.Read(19); !bytes.Equal(b, zeros) {
		t.Error("the sector behind the part was written")
	}
}

// P5.2: what is refused takes no number.
func TestRefusedTakesNoNumber(t *testing.T) {
	d := sector.New(4)
	j := mustOpen(t, d, 0, 4, 2, nil)
	j.Add(make([]byte, 5000))
	j.Add(make([]byte, 500))
	mustAdd(t, j, []byte("a"))
	j.Add(make([]byte, 400))
	mustAdd(t, j, []byte("b"))
	mustFlush(t, j)
	mustScan(t, d, 0, 4, 2, [][]byte{[]byte("a"), []byte("b")})
}

// P5.2: without power, what the journal itself refuses is refused still; what the device refuses ends its use.
func TestAddWithoutPower(t *testing.T) {
	d := sector.New(2)
	j := mustOpen(t, d, 0, 2, 2, nil)
	d.Fuse(0)
	d.Flush()
	if e := j.Add(make([]byte, 5000)); e != api.ErrLimit {
		t.Errorf("what has no form: %v", e)
	}
	if e := j.Add(make([]byte, 500)); e != api.ErrFull {
		t.Errorf("what has no room: %v", e)
	}
	if e := j.Add(nil); e != api.ErrCrash {
		t.Errorf("what is written: %v", e)
	}
	mustBeDead(t, d, j)
	d.Boot(nil)
	mustBeDead(t, d, j)
}

// P5.2: an Add writes each sector of its record once, in their order, and flushes nothing; where the power fails, the journal is dead.
func TestAddAtTheFuse(t *testing.T) {
	for sectors := 1; sectors <= 16; sectors++ {
		text := filled(bytesFor(sectors), sectors)
		form := begun(formed(1, 0, text))
		for fuse := range sectors + 1 {
			d := sector.New(18)
			j := mustOpen(t, d, 1, 17, 1, nil)
			d.Fuse(fuse)
			e := j.Add(text)
			if fuse == sectors { // enough
				if e != api.OK || d.Flush() != api.ErrCrash {
					t.Fatalf("%d sectors with a fuse of %d: %v", sectors, fuse, e)
				}
			} else if e != api.ErrCrash {
				t.Fatalf("%d sectors with a fuse of %d: %v", sectors, fuse, e)
			} else {
				mustBeDead(t, d, j)
			}
			keeps := make([]int, fuse)
			for k := range keeps {
				keeps[k] = k + 1 // so that the order of the writes is to be seen
			}
			d.Boot(keeps)
			want := make([]byte, 18*sectorBytes)
			for k := range keeps {
				copy(want[(1+k)*sectorBytes:], form[k*sectorBytes:k*sectorBytes+k+1])
			}
			if !bytes.Equal(image(t, d), want) {
				t.Fatalf("%d sectors with a fuse of %d: others were written", sectors, fuse)
			}
			if fuse < sectors {
				mustBeDead(t, d, j)
			}
			mustScan(t, d, 1, 17, 1, nil)
		}
	}
}

// P5.2: a Flush flushes; then it writes the first sectors, in their order, and flushes again.
func TestFlushAtTheFuse(t *testing.T) {
	texts := [][]byte{filled(10, 1), filled(200, 2), nil, filled(60, 3)}
	for fuse := range len(texts) + 3 {
		d := sector.New(12)
		j := mustOpen(t, d, 1, 11, 5, nil)
		want := make([]byte, 12*sectorBytes)
		var places []int
		at := 1
		for n, text := range texts {
			mustAdd(t, j, text)
			places = append(places, at)
			form := begun(formed(5, n, text))
			copy(want[at*sectorBytes:], form)
			at += len(form) / sectorBytes
		}
		d.Fuse(fuse)
		e := j.Flush()
		switch {
		case fuse == 0:
			clear(want) // nothing was sure
		case fuse == len(texts)+2:
			for _, at := range places {
				want[at*sectorBytes] = 1
			}
		}
		if (e == api.OK) != (fuse == len(texts)+2) || e != api.OK && e != api.ErrCrash {
			t.Fatalf("with a fuse of %d: %v", fuse, e)
		}
		if e != api.OK {
			mustBeDead(t, d, j)
		}
		d.Boot(make([]int, 20))
		if !bytes.Equal(image(t, d), want) {
			t.Fatalf("with a fuse of %d other sectors are sure", fuse)
		}
		if e != api.OK {
			mustBeDead(t, d, j)
		}
	}
}

// P5.2: of the 1s those come that the power lets come: a record is told where all ahead of it have theirs.
func TestTornFlush(t *testing.T) {
	texts := [][]byte{filled(10, 1), filled(200, 2), nil, filled(60, 3)}
	for fuse := 1; fuse <= len(texts)+1; fuse++ {
		for mask := range 1 << (fuse - 1) {
			d := sector.New(12)
			j := mustOpen(t, d, 1, 11, 5, nil)
			for _, text := range texts {
				mustAdd(t, j, text)
			}
			d.Fuse(fuse)
			if e := j.Flush(); e != api.ErrCrash {
				t.Fatalf("with a fuse of %d: %v", fuse, e)
			}
			keeps := make([]int, fuse-1)
			told := 0
			for k := range keeps {
				keeps[k] = mask >> k & 1
				if keeps[k] == 1 && told == k {
					told++
				}
			}
			d.Boot(keeps)
			mustScan(t, d, 1, 11, 5, texts[:told])
			j = mustOpen(t, d, 1, 11, 5, texts[:told])
			mustAdd(t, j, []byte("new"))
			mustFlush(t, j)
			mustScan(t, d, 1, 11, 5, append(slices.Clone(texts[:told]), []byte("new")))
		}
	}
}

// P5.2: a Flush of nothing is the device's alone; it makes sure whatever waits there.
func TestFlushOfNothing(t *testing.T) {
	d := sector.New(4)
	j := mustOpen(t, d, 0, 2, 1, nil)
	for _, added := range []bool{false, true} {
		if added {
			mustAdd(t, j, []byte("a"))
			mustFlush(t, j)
		}
		d.Write(3, filled(sectorBytes, 1))
		d.Fuse(1)
		mustFlush(t, j)
		if d.Down() {
			t.Fatal("more than one flush")
		}
		d.Boot([]int{0})
		if b, _ := d.Read(3); !bytes.Equal(b, filled(sectorBytes, 1)) {
			t.Fatal("it wasn't flushed")
		}
		lay(t, d, 3, zeros)
	}
	d.Fuse(0)
	if e := j.Flush(); e != api.ErrCrash {
		t.Errorf("at the fuse: %v", e)
	}
	mustBeDead(t, d, j)
}

// P5.2: Room goes down with each record, flushed or not.
func TestRoom(t *testing.T) {
	d := sector.New(api.MaxSectors)
	for _, many := range []int{0, 1, 5, api.MaxSectors} {
		if j := mustOpen(t, d, 0, many, 1, nil); j.Room() != many {
			t.Errorf("the room of %d sectors is %d", many, j.Room())
		}
	}
	j := mustOpen(t, d, 10, 30, 1, nil)
	left := 30
	for sectors := 1; sectors < 7; sectors++ {
		mustAdd(t, j, filled(bytesFor(sectors), 0))
		left -= sectors
		if j.Room() != left {
			t.Errorf("the room is %d, not %d", j.Room(), left)
		}
	}
	mustFlush(t, j)
	again, _, _ := journal.Open(d, 10, 30, 1)
	if j.Room() != left || again.Room() != left {
		t.Errorf("flushed, and opened again, the room is %d, %d, not %d", j.Room(), again.Room(), left)
	}
}

// crashed are the steps of a journal's life up to where the power fails: what was flushed, and what was added since.
type crashed struct {
	flushed, added [][]byte
	done           bool
}

// live opens a journal, adds and flushes by a rule of its own, until the power fails or all is done.
func live(t *testing.T, d *sector.Device, from, many, gen int, before [][]byte) crashed {
	t.Helper()
	j, told, e := journal.Open(d, from, many, gen)
	if e == api.ErrCrash {
		return crashed{flushed: before}
	}
	if e != api.OK || !slices.EqualFunc(told, before, bytes.Equal) {
		t.Fatalf("Open tells %d records, %v, not %d", len(told), e, len(before))
	}
	c := crashed{flushed: slices.Clone(before)}
	for n, size := range []int{4, 70, 0, 130, 60, 9} {
		text := filled(size, n+len(before))
		if e := j.Add(text); e == api.ErrFull {
			continue
		} else if e != api.OK {
			return c
		}
		c.added = append(c.added, text)
		if n%2 == 0 {
			continue
		}
		if e := j.Flush(); e != api.OK {
			return c
		}
		c.flushed, c.added = append(c.flushed, c.added...), nil
	}
	c.done = true
	return c
}

// mustKeep holds what Open tells behind a crash against what it may: all that was flushed, and then some of what was added since, without a gap.
func mustKeep(t *testing.T, d *sector.Device, from, many, gen int, c crashed) [][]byte {
	t.Helper()
	told, _, e := journal.Scan(d, from, many, gen)
	all := append(slices.Clone(c.flushed), c.added...)
	if e != api.OK || len(told) < len(c.flushed) || len(told) > len(all) || !slices.EqualFunc(told, all[:len(told)], bytes.Equal) {
		t.Fatalf("%d records are told, %v, of %d flushed and %d added", len(told), e, len(c.flushed), len(c.added))
	}
	return told
}

// randomKeeps are numbers for a Boot: many that matter at a sector's edges, some within.
func randomKeeps(r *rand.Rand) []int {
	keeps := make([]int, r.Intn(16))
	for k := range keeps {
		if keeps[k] = []int{0, 64, 1, -1, 2}[r.Intn(5)]; r.Intn(3) == 0 {
			keeps[k] = r.Intn(65)
		}
	}
	return keeps
}

// P5.3: the power fails at each step, and again at each step of the next opening and adding; what was flushed is told, in its order.
func TestCrashes(t *testing.T) {
	const from, many, gen = 2, 24, 6
	for seed := range 6 {
		r := rand.New(rand.NewSource(int64(seed)))
		for first, done := 0, false; !done; first++ {
			for second := range 24 {
				d := sector.New(28)
				for i := range 28 {
					lay(t, d, i, filled(sectorBytes, i+seed))
				}
				before := image(t, d)
				d.Fuse(first)
				c := live(t, d, from, many, gen, nil)
				done = c.done
				d.Boot(randomKeeps(r))
				told := mustKeep(t, d, from, many, gen, c)
				d.Fuse(second)
				c = live(t, d, from, many, gen, told)
				d.Boot(randomKeeps(r))
				told = mustKeep(t, d, from, many, gen, c)
				mustOpen(t, d, from, many, gen, told)
				after := image(t, d)
				if !bytes.Equal(after[:from*sectorBytes], before[:from*sectorBytes]) || !bytes.Equal(after[(from+many)*sectorBytes:], before[(from+many)*sectorBytes:]) {
					t.Fatal("sectors outside the part were written")
				}
			}
		}
	}
}

// P5.3: long rows of adding, flushing, and power that fails, also in the middle of opening.
func TestLongRows(t *testing.T) {
	for seed := range 40 {
		r := rand.New(rand.NewSource(int64(seed)))
		sectors := 20 + r.Intn(60)
		from := r.Intn(8)
		many := sectors - from - r.Intn(8)
		d := sector.New(sectors)
		c := crashed{}
		var j *journal.Journal
		for step := range 250 {
			if j == nil {
				told := mustKeep(t, d, from, many, 1, c)
				if r.Intn(4) == 0 {
					d.Fuse(r.Intn(4))
				}
				var e api.Errno
				j, _, e = journal.Open(d, from, many, 1)
				c = crashed{flushed: slices.Clone(told)}
				if e == api.ErrCrash {
					j = nil
					d.Boot(randomKeeps(r))
				}
				continue
			}
			var e api.Errno
			switch n := r.Intn(20); {
			case n < 12:
				text := filled(r.Intn(1<<r.Intn(8)), step)
				if e = j.Add(text); e == api.OK || e == api.ErrCrash {
					c.added = append(c.added, text)
				}
				if e == api.ErrFull {
					e = api.OK
				}
			case n < 16:
				if e = j.Flush(); e == api.OK {
					c.flushed, c.added = append(c.flushed, c.added...), nil
				}
			case n < 18:
				d.Fuse(r.Intn(20))
			default:
				e = api.ErrCrash // out of the blue
			}
			if e == api.ErrCrash {
				d.Boot(randomKeeps(r))
				j = nil
			} else if e != api.OK {
				t.Fatalf("step %d: %v", step, e)
			} else {
				mustScan(t, d, from, many, 1, c.flushed)
			}
		}
	}
}

// R4: what is handed in is neither changed nor kept, nor is what lies behind its length.
func TestHandedInIsLeft(t *testing.T) {
	memory := append(filled(100, 1), 77, 78, 79)
	before := bytes.Clone(memory)
	b := memory[:100]
	form, _ := journal.Form(1, 0, b)
	want := bytes.Clone(form)
	d := sector.New(4)
	j := mustOpen(t, d, 0, 4, 1, nil)
	mustAdd(t, j, b)
	if !bytes.Equal(memory, before) {
		t.Error("what was handed in was written over")
	}
	clear(memory)
	if !bytes.Equal(form, want) {
		t.Error("a form hangs on what was handed in")
	}
	mustFlush(t, j)
	mustScan(t, d, 0, 4, 1, [][]byte{before[:100]})
	if !bytes.Equal(memory, make([]byte, 103)) {
		t.Error("what was handed in was written over later")
	}
}

// R4: what is told may be written over, and nothing else changes by it.
func TestAnswersAreFresh(t *testing.T) {
	spoil := func(b []byte) { clear(b[:cap(b)]) }
	texts := [][]byte{filled(10, 1), filled(100, 2)}
	d := sector.New(8)
	lay(t, d, 0, append(formed(1, 0, texts[0]), formed(1, 1, texts[1])...))
	one, _, _ := journal.Scan(d, 0, 8, 1)
	two, _, _ := journal.Scan(d, 0, 8, 1)
	j, three, _ := journal.Open(d, 0, 8, 1)
	spoil(one[0])
	if !bytes.Equal(one[1], texts[1]) {
		t.Error("two records of one answer share their memory")
	}
	spoil(three[1])
	one[1] = nil
	if !slices.EqualFunc(two, texts, bytes.Equal) {
		t.Error("two answers share their memory")
	}
	mustAdd(t, j, filled(3, 3))
	mustFlush(t, j)
	mustScan(t, d, 0, 8, 1, append(texts, filled(3, 3)))
	form, _ := journal.Form(1, 0, texts[0])
	spoil(form)
	if again, _ := journal.Form(1, 0, texts[0]); !bytes.Equal(again, formed(1, 0, texts[0])) {
		t.Error("two forms share their memory")
	}
}

// P5.2: two journals of one device, each with a part and a generation, have nothing of each other.
func TestJournalsAreApart(t *testing.T) {
	d := sector.New(20)
	one := mustOpen(t, d, 0, 8, 1, nil)
	two := mustOpen(t, d, 8, 12, 2, nil)
	mustAdd(t, one, []byte("a"))
	mustAdd(t, two, []byte("x"))
	mustFlush(t, two)
	mustScan(t, d, 0, 8, 1, nil)
	mustScan(t, d, 8, 12, 2, [][]byte{[]byte("x")})
	mustAdd(t, one, filled(300, 1))
	mustFlush(t, one)
	mustScan(t, d, 0, 8, 1, [][]byte{[]byte("a"), filled(300, 1)})
	mustScan(t, d, 8, 12, 2, [][]byte{[]byte("x")})
}
