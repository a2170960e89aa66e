package vault_test

import (
	"bytes"
	"encoding/binary"
	"hash/crc32"
	"maps"
	"math"
	"math/rand"
	"slices"
	"testing"

	"dotterel/api"
	"dotterel/sector"
	"dotterel/vault"
)

const sectorBytes = api.SectorBytes

// most is the greatest key, and the greatest generation.
const most = 1 << 40

// short is a short number.
func short(n int) []byte { return binary.AppendUvarint(nil, uint64(n)) }

// texted is a text as a field.
func texted(b []byte) []byte { return append(short(len(b)), b...) }

// formed is a record's form, as chapter 5 words it.
func formed(gen, n int, b []byte) []byte {
	fields := slices.Concat(short(gen), short(n), texted(b))
	rest := binary.LittleEndian.AppendUint32(bytes.Clone(fields), crc32.ChecksumIEEE(fields))
	form := append([]byte{1, byte(len(rest)), byte(len(rest) >> 8)}, rest...)
	for len(form)%sectorBytes != 0 {
		form = append(form, 0)
	}
	return form
}

// rowOf is the forms of records, one behind the other.
func rowOf(gen int, texts ...[]byte) []byte {
	var row []byte
	for n, text := range texts {
		row = append(row, formed(gen, n, text)...)
	}
	return row
}

func putText(key int, b []byte) []byte { return slices.Concat(short(key), short(1), texted(b)) }

func dropText(key int) []byte { return append(short(key), 0) }

func keyText(key int, b []byte) []byte { return append(short(key), texted(b)...) }

// checkpoint is the forms of a checkpoint's records.
func checkpoint(gen int, values map[int][]byte) []byte {
	texts := [][]byte{short(len(values))}
	for _, key := range slices.Sorted(maps.Keys(values)) {
		texts = append(texts, keyText(key, values[key]))
	}
	return rowOf(gen, texts...)
}

// filled are so many bytes, none of them 0, each told from those near by.
func filled(many, mark int) []byte {
	b := make([]byte, many)
	for i := range b {
		b[i] = byte(1 + (i*7+mark*13)%255)
	}
	return b
}

// lay writes bytes from a sector on, for sure.
func lay(t *testing.T, d *sector.Device, from int, b []byte) {
	t.Helper()
	for i := 0; i*sectorBytes < len(b); i++ {
		if e := d.Write(from+i, b[i*sectorBytes:(i+1)*sectorBytes]); e != api.OK {
			t.Fatalf("Write of sector %d: %v", from+i, e)
		}
	}
	if e := d.Flush(); e != api.OK {
		t.Fatalf("Flush: %v", e)
	}
}

// deviceOf is a device that has these bytes.
func deviceOf(t *testing.T, b []byte) *sector.Device {
	t.Helper()
	d := sector.New(len(b) / sectorBytes)
	lay(t, d, 0, b)
	return d
}

// image is all that a device has.
func image(t *testing.T, d *sector.Device) []byte {
	t.Helper()
	var all []byte
	for i := range d.Len() {
		b, e := d.Read(i)
		if e != api.OK {
			t.Fatalf("Read(%d): %v", i, e)
		}
		all = append(all, b...)
	}
	return all
}

// mustHave holds what a vault tells against what it should.
func mustHave(t *testing.T, v *vault.Vault, gen int, values map[int][]byte) {
	t.Helper()
	if v.Gen() != gen {
		t.Fatalf("Gen is %d, not %d", v.Gen(), gen)
	}
	keys := slices.Sorted(maps.Keys(values))
	if !slices.Equal(v.Keys(), keys) {
		t.Fatalf("Keys are %v, not %v", v.Keys(), keys)
	}
	for _, key := range keys {
		if b, ok := v.Get(key); !ok || !bytes.Equal(b, values[key]) {
			t.Fatalf("Get(%d) = %d bytes, %v, not %d", key, len(b), ok, len(values[key]))
		}
	}
	for _, key := range []int{math.MinInt, -1, 0, 1, 77, most, most + 1, math.MaxInt} {
		if _, has := values[key]; has {
			continue
		}
		if b, ok := v.Get(key); ok || b != nil {
			t.Fatalf("Get(%d) = %d bytes, %v: it has none", key, len(b), ok)
		}
	}
}

// mustOpen opens a vault, and holds what it tells against what it should.
func mustOpen(t *testing.T, d *sector.Device, gen int, values map[int][]byte) *vault.Vault {
	t.Helper()
	v, e := vault.Open(d)
	if e != api.OK || v == nil {
		t.Fatalf("Open: %v", e)
	}
	mustHave(t, v, gen, values)
	return v
}

func mustPut(t *testing.T, v *vault.Vault, key int, b []byte) {
	t.Helper()
	if e := v.Put(key, b); e != api.OK {
		t.Fatalf("Put(%d) of %d bytes: %v", key, len(b), e)
	}
}

// mustBeDead holds that each further change is ErrCrash and writes nothing, with power and without, and that what was kept is still told.
func mustBeDead(t *testing.T, d *sector.Device, v *vault.Vault, gen int, values map[int][]byte) {
	t.Helper()
	for _, boot := range []bool{false, true} {
		if boot {
			d.Boot(nil)
		}
		var before []byte
		if !d.Down() {
			before = image(t, d)
		}
		mustHave(t, v, gen, values)
		for _, key := range []int{0, 1, -1, most + 1} {
			for _, size := range []int{0, 900, 901} {
				if e := v.Put(key, make([]byte, size)); e != api.ErrCrash {
					t.Fatalf("Put(%d) of a dead vault: %v", key, e)
				}
			}
		}
		for _, key := range append(slices.Sorted(maps.Keys(values)), 77) {
			if e := v.Drop(key); e != api.ErrCrash {
				t.Fatalf("Drop of a dead vault: %v", e)
			}
		}
		mustHave(t, v, gen, values)
		if before != nil && !bytes.Equal(image(t, d), before) {
			t.Fatal("a dead vault wrote")
		}
	}
}

// model is a vault as the chapter words it: what it keeps, and each byte of its device.
type model struct {
	all           []byte
	gen, next     int
	used, records int
	values        map[int][]byte
}

func newModel(sectors int) *model {
	return &model{all: make([]byte, sectors*sectorBytes), values: map[int][]byte{}}
}

// quarter is how many bytes a checkpoint has.
func (m *model) quarter() int { return len(m.all) / sectorBytes / 4 * sectorBytes }

// changes is the journal's bytes.
func (m *model) changes() []byte { return m.all[2*m.quarter():] }

// busy is how many sectors there are that aren't zeros.
func busy(b []byte) int {
	many := 0
	for s := range slices.Chunk(b, sectorBytes) {
		if !bytes.Equal(s, make([]byte, sectorBytes)) {
			many++
		}
	}
	return many
}

// keep makes a change; it tells its error, and how many writes and flushes it has.
func (m *model) keep(text []byte, apply func(map[int][]byte)) (api.Errno, int) {
	form := formed(m.gen, m.records, text)
	if m.used+len(form) <= len(m.changes()) {
		copy(m.changes()[m.used:], form)
		m.used += len(form)
		m.records++
		apply(m.values)
		return api.OK, len(form)/sectorBytes + 3
	}
	values := maps.Clone(m.values)
	apply(values)
	row := checkpoint(m.gen+1, values)
	if len(row) > m.quarter() {
		return api.ErrFull, 0
	}
	place := m.all[m.next : m.next+m.quarter()]
	steps := busy(place)
	if steps > 0 {
		steps++
	}
	steps += len(row)/sectorBytes + 1 + len(values) + 1 + 1 + busy(m.changes()) + 1
	clear(place)
	copy(place, row)
	clear(m.changes())
	m.gen, m.next, m.used, m.records, m.values = m.gen+1, m.quarter()-m.next, 0, 0, values
	return api.OK, steps
}

func (m *model) put(key int, b []byte) (api.Errno, int) {
	return m.keep(putText(key, b), func(values map[int][]byte) { values[key] = bytes.Clone(b) })
}

func (m *model) drop(key int) (api.Errno, int) {
	if _, ok := m.values[key]; !ok {
		return api.ErrNone, 0
	}
	return m.keep(dropText(key), func(values map[int][]byte) { delete(values, key) })
}

func (m *model) clone() *model {
	n := *m
	n.all, n.values = bytes.Clone(m.all), maps.Clone(m.values)
	return &n
}

// deed is a Put of a value, or, without one, a Drop.
type deed struct {
	key, size, mark int
	drop            bool
}

func (a deed) do(v *vault.Vault) api.Errno {
	if a.drop {
		return v.Drop(a.key)
	}
	return v.Put(a.key, filled(a.size, a.mark))
}

func (a deed) model(m *model) (api.Errno, int) {
	if a.drop {
		return m.drop(a.key)
	}
	return m.put(a.key, filled(a.size, a.mark))
}

func randomDeed(r *rand.Rand, mark int) deed {
	return deed{key: r.Intn(6), size: r.Intn(1 << r.Intn(9)), mark: mark, drop: r.Intn(3) == 0}
}

// P6.1: no device, and devices that are too small, also without power.
func TestOpenArg(t *testing.T) {
	devices := []*sector.Device{nil, {}}
	for sectors := 1; sectors < 8; sectors++ {
		down := sector.New(sectors)
		down.Fuse(0)
		down.Flush()
		devices = append(devices, sector.New(sectors), down)
	}
	for _, d := range devices {
		if v, e := vault.Open(d); v != nil || e != api.ErrArg {
			t.Errorf("%v, %v", v, e)
		}
	}
}

// P6.1: a device that has nothing: no values, generation 0, and nothing is written.
func TestOpenOfNothing(t *testing.T) {
	for sectors := 8; sectors <= 40; sectors++ {
		d := sector.New(sectors)
		d.Fuse(0)
		mustOpen(t, d, 0, nil)
	}
	mustOpen(t, sector.New(api.MaxSectors), 0, nil)
}

// P6.1: a device without power.
func TestOpenDown(t *testing.T) {
	d := sector.New(8)
	lay(t, d, 0, checkpoint(1, nil))
	d.Fuse(0)
	d.Flush()
	if v, e := vault.Open(d); v != nil || e != api.ErrDown {
		t.Errorf("%v, %v", v, e)
	}
	d.Boot(nil)
	mustOpen(t, d, 1, nil)
}

// P6.1: what is no change is zeros when the vault is open: each write and the flush may meet the fuse.
func TestOpenAtTheFuse(t *testing.T) {
	row := rowOf(0, putText(5, []byte("x")))
	for fuse := range 6 {
		d := sector.New(12)
		lay(t, d, 6, row)
		lay(t, d, 7, filled(sectorBytes, 1))
		lay(t, d, 9, filled(2*sectorBytes, 2))
		d.Fuse(fuse)
		v, e := vault.Open(d)
		if fuse < 4 && (v != nil || e != api.ErrCrash) || fuse >= 4 && e != api.OK {
			t.Fatalf("with a fuse of %d: %v, %v", fuse, v, e)
		}
		d.Boot([]int{0, 30, 64})
		mustOpen(t, d, 0, map[int][]byte{5: []byte("x")})
		if want := append(make([]byte, 6*sectorBytes), row...); !bytes.Equal(bytes.TrimRight(image(t, d), "\x00"), bytes.TrimRight(want, "\x00")) {
			t.Fatalf("with a fuse of %d more stays than what is kept", fuse)
		}
	}
}

// P6.1: where the checkpoints and the journal lie, on devices of many sizes; other sectors don't matter.
func TestPlaces(t *testing.T) {
	sizes := []int{api.MaxSectors - 1, api.MaxSectors}
	for sectors := 8; sectors < 30; sectors++ {
		sizes = append(sizes, sectors)
	}
	for _, sectors := range sizes {
		n := sectors / 4
		for _, place := range []int{0, n} {
			values := map[int][]byte{3: []byte("old"), most: nil}
			if n == 2 {
				delete(values, most)
			}
			d := sector.New(sectors)
			lay(t, d, n-place, filled(n*sectorBytes, 1))
			lay(t, d, place, checkpoint(6, values))
			mustOpen(t, d, 6, values)
			lay(t, d, 2*n, rowOf(6, dropText(3), putText(4, []byte("new"))))
			delete(values, 3)
			values[4] = []byte("new")
			mustOpen(t, d, 6, values)
		}
		d := sector.New(sectors)
		values := map[int][]byte{}
		var texts [][]byte
		for i := range sectors - 2*n {
			values[i%5] = short(i)
			texts = append(texts, putText(i%5, short(i)))
		}
		lay(t, d, 2*n, rowOf(0, texts...))
		mustOpen(t, d, 0, values)
	}
}

// P6.1: of the checkpoints that are right, of generations from 1 on, the one of the greater generation counts, and the changes of its journal alone.
func TestGreaterGeneration(t *testing.T) {
	gens := []int{0, 1, 2, 3, 127, 128, most - 1, most}
	for _, one := range gens {
		for _, two := range gens {
			for _, changed := range []int{0, one, two} {
				d := sector.New(16)
				lay(t, d, 0, checkpoint(one, map[int][]byte{1: []byte("one")}))
				lay(t, d, 4, checkpoint(two, map[int][]byte{2: []byte("two")}))
				lay(t, d, 8, rowOf(changed, putText(3, []byte("three"))))
				gen, values := max(one, two), map[int][]byte{}
				switch {
				case gen == 0:
				case one >= two:
					values[1] = []byte("one")
				default:
					values[2] = []byte("two")
				}
				if changed == gen {
					values[3] = []byte("three")
				}
				mustOpen(t, d, gen, values)
			}
		}
	}
}

// P6.1: a checkpoint is the first records of its part: what stands behind them doesn't matter.
func TestBehindCheckpoint(t *testing.T) {
	for _, text := range [][]byte{nil, []byte("x"), keyText(1, nil), keyText(9, []byte("nine"))} {
		d := sector.New(16)
		lay(t, d, 0, rowOf(3, short(1), keyText(2, []byte("two")), text))
		mustOpen(t, d, 3, map[int][]byte{2: []byte("two")})
	}
}

// P6.1: checkpoints that aren't right; the other one counts then, or none.
func TestWrongCheckpoints(t *testing.T) {
	long := filled(901, 1)
	rows := map[string][]byte{
		"nothing":                 nil,
		"no count":                rowOf(5, nil),
		"a count that ends":       rowOf(5, []byte{0x80}),
		"a count with a 0 behind": rowOf(5, []byte{0x80, 0}, keyText(1, nil)),
		"a count, and more":       rowOf(5, []byte{1, 1}, keyText(1, nil)),
		"a count that is a text":  rowOf(5, []byte{1, 'x'}, keyText(1, nil)),
		"one key too few":         rowOf(5, short(2), keyText(1, nil)),
		"no key":                  rowOf(5, short(1)),
		"a great count":           rowOf(5, short(math.MaxInt), keyText(1, nil)),
		"a key twice":             rowOf(5, short(2), keyText(1, nil), keyText(1, nil)),
		"keys that fall":          rowOf(5, short(2), keyText(2, nil), keyText(1, nil)),
		"a key outside":           rowOf(5, short(1), keyText(most+1, nil)),
		"a long value":            rowOf(5, short(1), keyText(1, long)),
		"a key without a value":   rowOf(5, short(1), short(1)),
		"a value that ends":       rowOf(5, short(1), []byte{1, 3, 'x'}),
		"a value, and more":       rowOf(5, short(1), append(keyText(1, []byte("x")), 0)),
		"a record that is empty":  rowOf(5, short(1), nil),
		"a record that is torn":   rowOf(5, short(2), keyText(1, nil), keyText(2, filled(90, 1)))[:3*sectorBytes],
		"another generation":      slices.Concat(formed(5, 0, short(1)), formed(4, 1, keyText(1, nil))),
		"a number left out":       slices.Concat(formed(5, 0, short(1)), formed(5, 2, keyText(1, nil))),
		"no number 0":             slices.Concat(formed(5, 1, short(1)), formed(5, 2, keyText(1, nil))),
		"a great generation":      rowOf(most+1, short(0)),
		"generation 0":            rowOf(0, short(0)),
		"a place ahead of it":     append(make([]byte, sectorBytes), rowOf(5, short(0))...),
	}
	for i := range sectorBytes {
		row := rowOf(5, short(1), keyText(1, []byte("one")))
		row[i] ^= 1
		rows["a byte of the first turned: "+string(rune('0'+i))] = row
		row = rowOf(5, short(1), keyText(1, []byte("one")))
		row[sectorBytes+i] ^= 0x80
		rows["a byte of the second turned: "+string(rune('0'+i))] = row
	}
	good := map[int][]byte{7: []byte("good")}
	for name, row := range rows {
		t.Run(name, func(t *testing.T) {
			for _, place := range []int{0, 16} {
				d := sector.New(64)
				lay(t, d, place, row)
				mustOpen(t, d, 0, nil)
				lay(t, d, 16-place, checkpoint(4, good))
				v := mustOpen(t, d, 4, good)
				// The next one comes in the place of the one that isn't right.
				values := maps.Clone(good)
				for mark := 0; v.Gen() == 4; mark++ {
					values[1] = filled(300, mark)
					mustPut(t, v, 1, values[1])
				}
				row := checkpoint(5, values)
				all := image(t, d)
				if got := all[place*sectorBytes : (place+16)*sectorBytes]; !bytes.Equal(got[:len(row)], row) || busy(got[len(row):]) > 0 {
					t.Error("the next checkpoint isn't in its place alone")
				}
				if got := all[(16-place)*sectorBytes:]; !bytes.HasPrefix(got, checkpoint(4, good)) {
					t.Error("the one that was right is gone")
				}
				mustOpen(t, d, 5, values)
			}
		})
	}
}

// P6.1: a checkpoint is within its n sectors.
func TestCheckpointWithinItsPart(t *testing.T) {
	values := map[int][]byte{1: []byte("a"), 2: []byte("b"), 3: []byte("c")}
	for sectors := 12; sectors < 20; sectors++ {
		d := sector.New(sectors)
		lay(t, d, 0, checkpoint(5, values))
		if sectors < 16 {
			mustOpen(t, d, 0, nil)
		} else {
			mustOpen(t, d, 5, values)
		}
	}
}

// P6.1: the journal's changes count up to the first record that is none. What is put behind such a record is there when the vault is opened anew, and what stood behind it isn't.
func TestWrongChanges(t *testing.T) {
	texts := map[string][]byte{
		"nothing":                nil,
		"no kind":                short(2),
		"a kind of 2":            {2, 2},
		"a kind of 2, a value":   {2, 2, 1, 'x'},
		"a kind with a 0 behind": {2, 0x81, 0, 1, 'x'},
		"a put without a value":  {2, 1},
		"a value that ends":      {2, 1, 3, 'x'},
		"a put, and more":        append(putText(2, []byte("x")), 0),
		"a drop, and more":       append(dropText(1), 0),
		"a drop with a value":    {1, 0, 1, 'x'},
		"a long value":           putText(2, filled(901, 1)),
		"a put outside":          putText(most+1, nil),
		"a drop outside":         dropText(most + 1),
		"a key of a checkpoint":  keyText(2, []byte("xy")),
		"a count":                short(1),
	}
	for name, text := range texts {
		t.Run(name, func(t *testing.T) {
			for _, ahead := range []int{0, 1, 2} {
				row := [][]byte{putText(1, []byte("one")), putText(4, filled(100, 1))}[:ahead]
				values := map[int][]byte{}
				if ahead > 0 {
					values[1] = []byte("one")
				}
				if ahead > 1 {
					values[4] = filled(100, 1)
				}
				row = append(row, text, putText(3, []byte("behind")), dropText(1))
				d := sector.New(64)
				lay(t, d, 32, rowOf(0, row...))
				v := mustOpen(t, d, 0, values)
				d.Boot(nil)
				mustOpen(t, d, 0, values)
				mustPut(t, v, 2, []byte("two"))
				values[2] = []byte("two")
				mustHave(t, v, 0, values)
				mustOpen(t, d, 0, values)
			}
		})
	}
}

// P6.1: changes do what they say, one by one, also a drop of a key that has none.
func TestChanges(t *testing.T) {
	d := sector.New(64)
	lay(t, d, 0, checkpoint(2, map[int][]byte{1: []byte("one"), 2: []byte("two")}))
	lay(t, d, 32, rowOf(2, dropText(9), putText(1, nil), dropText(2), putText(3, filled(900, 3)), dropText(3), putText(2, []byte("x")), putText(most, []byte("y")), putText(2, []byte("z"))))
	mustOpen(t, d, 2, map[int][]byte{1: nil, 2: []byte("z"), most: []byte("y")})
}

// P6.2: wrong keys and values, the key first; nothing is written, and the vault goes on.
func TestPutErrors(t *testing.T) {
	d := sector.New(64)
	v := mustOpen(t, d, 0, nil)
	d.Fuse(0)
	for _, c := range []struct {
		key, size int
		want      api.Errno
	}{
		{-1, 0, api.ErrRange},
		{math.MinInt, 0, api.ErrRange},
		{most + 1, 0, api.ErrRange},
		{math.MaxInt, 0, api.ErrRange},
		{-1, 901, api.ErrRange},
		{most + 1, 1 << 20, api.ErrRange},
		{0, 901, api.ErrLimit},
		{most, 901, api.ErrLimit},
		{5, 1 << 20, api.ErrLimit},
	} {
		if e := v.Put(c.key, make([]byte, c.size)); e != c.want {
			t.Errorf("Put(%d) of %d bytes: %v, not %v", c.key, c.size, e, c.want)
		}
	}
	d.Boot(nil)
	values := map[int][]byte{0: filled(900, 1), most: filled(900, 2)}
	mustPut(t, v, 0, values[0])
	mustPut(t, v, most, values[most])
	mustHave(t, v, 0, values)
	mustOpen(t, d, 0, values)
}

// P6.2: a key that has none isn't dropped, whatever it is.
func TestDropErrors(t *testing.T) {
	d := sector.New(16)
	v := mustOpen(t, d, 0, nil)
	for _, key := range []int{math.MinInt, -1, 0, 1, most, most + 1, math.MaxInt} {
		d.Fuse(0)
		if e := v.Drop(key); e != api.ErrNone {
			t.Errorf("Drop(%d): %v", key, e)
		}
		d.Boot(nil)
	}
	mustPut(t, v, 3, nil)
	if e := v.Drop(3); e != api.OK {
		t.Errorf("Drop of what is there: %v", e)
	}
	if e := v.Drop(3); e != api.ErrNone {
		t.Errorf("Drop of what was dropped: %v", e)
	}
	mustOpen(t, d, 0, nil)
}

// P6.1, P6.2: rows of changes, on devices of many sizes: each answer, each byte of the device, and how many writes and flushes there were are as the chapter words them.
func TestRows(t *testing.T) {
	for sectors := 8; sectors < 72; sectors++ {
		r := rand.New(rand.NewSource(int64(sectors)))
		m := newModel(sectors)
		d := sector.New(sectors)
		v := mustOpen(t, d, 0, nil)
		for step := range 120 {
			a := randomDeed(r, step)
			want, steps := a.model(m)
			d.Fuse(steps)
			if e := a.do(v); e != want {
				t.Fatalf("%d sectors, step %d: %v, not %v", sectors, step, e, want)
			}
			if d.Down() {
				t.Fatal("more writes and flushes than the chapter words")
			}
			if d.Flush() != api.ErrCrash {
				t.Fatal("fewer writes and flushes than the chapter words")
			}
			d.Boot([]int{0, 0, 0, 0})
			if !bytes.Equal(image(t, d), m.all) {
				t.Fatalf("%d sectors, step %d: the device has other bytes", sectors, step)
			}
			mustHave(t, v, m.gen, m.values)
			if step%7 == 0 {
				v = mustOpen(t, d, m.gen, m.values)
			}
		}
	}
}

// P6.2: without room nothing is changed, without power too; what has room still comes.
func TestFull(t *testing.T) {
	d := sector.New(16)
	v := mustOpen(t, d, 0, nil)
	values := map[int][]byte{}
	for i := range 7 {
		values[i] = filled(20, i)
		mustPut(t, v, i, values[i])
	}
	before := image(t, d)
	d.Fuse(0)
	for range 3 {
		if e := v.Put(9, filled(60, 9)); e != api.ErrFull {
			t.Fatalf("Put: %v", e)
		}
	}
	d.Write(0, nil)
	if e := v.Put(9, filled(60, 9)); e != api.ErrFull {
		t.Fatalf("Put without power: %v", e)
	}
	d.Boot(nil)
	if !bytes.Equal(image(t, d), before) {
		t.Fatal("what had no room was written")
	}
	mustHave(t, v, 0, values)
	mustPut(t, v, 0, nil)
	values[0] = nil
	if e := v.Drop(1); e != api.ErrFull {
		t.Fatalf("Drop: %v", e)
	}
	mustHave(t, v, 0, values)
	mustOpen(t, d, 0, values)
}

// P6.2: a checkpoint that just has room, and one that just hasn't.
func TestCheckpointRoom(t *testing.T) {
	for sectors := 8; sectors < 64; sectors++ {
		n := sectors / 4
		for _, over := range []int{0, 1} {
			d := sector.New(sectors)
			v := mustOpen(t, d, 0, nil)
			values := map[int][]byte{}
			for key := range n - 1 + over {
				values[key] = []byte("x")
				mustPut(t, v, key, values[key])
			}
			for range sectors - 2*n - len(values) {
				mustPut(t, v, 0, []byte("x"))
			}
			want, gen := api.OK, 1
			if over == 1 {
				want, gen = api.ErrFull, 0
			}
			if e := v.Put(0, []byte("x")); e != want {
				t.Fatalf("%d keys in %d sectors: %v, not %v", len(values), n, e, want)
			}
			mustHave(t, v, gen, values)
			mustOpen(t, d, gen, values)
		}
	}
}

// P6.2: a Drop makes the checkpoint smaller: its values are those behind the change.
func TestDropTurns(t *testing.T) {
	d := sector.New(8)
	v := mustOpen(t, d, 0, nil)
	for key := range 4 {
		mustPut(t, v, key%2, []byte{byte(key)})
	}
	if e := v.Put(0, nil); e != api.ErrFull {
		t.Fatalf("Put: %v", e)
	}
	if e := v.Drop(1); e != api.OK {
		t.Fatalf("Drop: %v", e)
	}
	mustHave(t, v, 1, map[int][]byte{0: {2}})
	mustOpen(t, d, 1, map[int][]byte{0: {2}})
}

// P6.2: the greatest generation comes; behind it there is none, and nothing is changed without room in its journal.
func TestGreatestGeneration(t *testing.T) {
	d := sector.New(16)
	lay(t, d, 0, checkpoint(most-1, nil))
	v := mustOpen(t, d, most-1, nil)
	values := map[int][]byte{}
	for mark := range 8 + 1 + 8 {
		values[1] = filled(20, mark)
		mustPut(t, v, 1, values[1])
	}
	mustHave(t, v, most, values)
	before := image(t, d)
	for range 2 {
		if e := v.Put(1, nil); e != api.ErrFull {
			t.Fatalf("Put: %v", e)
		}
		if e := v.Drop(1); e != api.ErrFull {
			t.Fatalf("Drop: %v", e)
		}
		if !bytes.Equal(image(t, d), before) {
			t.Fatal("something was written")
		}
		mustHave(t, v, most, values)
		v = mustOpen(t, d, most, values)
	}
}

// P6.2: whatever stands in the place of the next checkpoint goes, also records of its generation, and of the one that is kept.
func TestPlaceIsCleared(t *testing.T) {
	kept := map[int][]byte{1: []byte("one")}
	for _, row := range [][]byte{
		filled(4*sectorBytes, 1),
		rowOf(5, short(4), keyText(0, nil), keyText(2, []byte("x")), keyText(9, nil)),
		rowOf(5, []byte("no count")),
		rowOf(4, short(9), keyText(0, nil)),
		rowOf(3, short(1), keyText(2, []byte("older"))),
		rowOf(0, short(1), keyText(2, []byte("of 0"))),
		checkpoint(4, map[int][]byte{2: []byte("as great")}),
		append(make([]byte, 3*sectorBytes), filled(sectorBytes, 2)...),
	} {
		d := sector.New(16)
		lay(t, d, 0, checkpoint(4, kept))
		lay(t, d, 4, row)
		v := mustOpen(t, d, 4, kept)
		for mark := range 9 {
			mustPut(t, v, 3, []byte{byte(mark)})
		}
		values := map[int][]byte{1: []byte("one"), 3: {8}}
		mustHave(t, v, 5, values)
		want := append(checkpoint(4, kept), make([]byte, 2*sectorBytes)...)
		want = append(want, checkpoint(5, values)...)
		want = append(want, make([]byte, 9*sectorBytes)...)
		if !bytes.Equal(image(t, d), want) {
			t.Fatal("the device has other bytes")
		}
		mustOpen(t, d, 5, values)
	}
}

// P6.2: a vault whose device fails isn't used any more, wherever the change meets the fuse.
func TestDead(t *testing.T) {
	for _, full := range []bool{false, true} {
		m := newModel(16)
		for i := range 7 {
			m.put(i%2, filled(20, i))
		}
		if full {
			m.put(0, filled(20, 9))
		}
		before := m.clone()
		_, steps := m.put(3, filled(30, 1))
		for fuse := range steps {
			d := deviceOf(t, before.all)
			v := mustOpen(t, d, before.gen, before.values)
			d.Fuse(fuse)
			if e := v.Put(3, filled(30, 1)); e != api.ErrCrash {
				t.Fatalf("with a fuse of %d of %d: %v", fuse, steps, e)
			}
			mustBeDead(t, d, v, before.gen, before.values)
		}
	}
}

// P6.2: a change on a device without power is ErrCrash, also where a read comes first.
func TestChangeWithoutPower(t *testing.T) {
	for _, full := range []bool{false, true} {
		m := newModel(16)
		m.put(1, []byte("x"))
		for full && m.used < len(m.changes()) {
			m.put(1, []byte("x"))
		}
		for _, a := range []deed{{key: 2}, {key: 1, drop: true}} {
			d := deviceOf(t, m.all)
			v := mustOpen(t, d, 0, m.values)
			d.Fuse(0)
			d.Flush()
			if e := a.do(v); e != api.ErrCrash {
				t.Fatalf("%v", e)
			}
			mustBeDead(t, d, v, 0, m.values)
		}
	}
}

// tears are numbers for Boots: none comes, all come, each alone comes or lacks, a beginning comes, and some by chance.
func tears(r *rand.Rand, many int) [][]int {
	all := [][]int{nil, make([]int, many)}
	for k := range many {
		one, lacks, begin, torn := make([]int, many), make([]int, many), make([]int, many), make([]int, many)
		for i := range many {
			torn[i] = r.Intn(66) - 1
			if lacks[i] = 64; i <= k {
				begin[i] = 64
			}
		}
		one[k], lacks[k] = 64, 0
		all = append(all, one, lacks, begin, torn)
	}
	return all
}

// mustKeep opens a vault behind a crash within a change: it keeps what was kept ahead of it, or behind it; it tells which.
func mustKeep(t *testing.T, d *sector.Device, before, after *model) *model {
	t.Helper()
	v, e := vault.Open(d)
	if e != api.OK {
		t.Fatalf("Open: %v", e)
	}
	same := func(m *model) bool {
		return slices.Equal(v.Keys(), slices.Sorted(maps.Keys(m.values))) && maps.EqualFunc(m.values, valuesOf(v), bytes.Equal)
	}
	switch {
	case same(before):
		return before
	case same(after):
		return after
	}
	t.Fatalf("%v is kept: neither what was ahead of the crash nor what was behind", v.Keys())
	return nil
}

func valuesOf(v *vault.Vault) map[int][]byte {
	values := map[int][]byte{}
	for _, key := range v.Keys() {
		values[key], _ = v.Get(key)
	}
	return values
}

// P6.3: the power fails at each step of a change, and of what was written any part comes; and then again, in the opening and the next change.
func TestCrashes(t *testing.T) {
	r := rand.New(rand.NewSource(1))
	for _, a := range []deed{{key: 1, size: 70, mark: 99}, {key: 0, drop: true}} {
		for _, aged := range []int{3, 8, 16, 24} {
			m := newModel(16)
			for i := range aged {
				m.put(i%2, filled(20, i))
			}
			before := m.clone()
			_, steps := a.model(m)
			for fuse := range steps {
				for _, keeps := range tears(r, 10) {
					d := deviceOf(t, before.all)
					v := mustOpen(t, d, before.gen, before.values)
					d.Fuse(fuse)
					if e := a.do(v); e != api.ErrCrash {
						t.Fatalf("with a fuse of %d of %d: %v", fuse, steps, e)
					}
					d.Boot(keeps)
					d.Fuse(r.Intn(6))
					if _, e := vault.Open(d); e != api.OK && e != api.ErrCrash {
						t.Fatalf("Open: %v", e)
					}
					d.Boot(tears(r, 10)[r.Intn(42)])
					now := mustKeep(t, d, before, m)
					if again := mustKeep(t, d, before, m); again != now {
						t.Fatal("what is kept is another thing the next time")
					}
				}
			}
		}
	}
}

// P6.3: long rows of changes and crashes, with power that fails also in the middle of opening.
func TestLongRows(t *testing.T) {
	for seed := range 60 {
		r := rand.New(rand.NewSource(int64(seed)))
		d := sector.New(8 + r.Intn(60))
		sure, perhaps := map[int][]byte{}, map[int][]byte(nil)
		var v *vault.Vault
		for step := range 300 {
			for v == nil {
				if r.Intn(3) == 0 {
					d.Fuse(r.Intn(8))
				}
				var e api.Errno
				if v, e = vault.Open(d); e == api.ErrCrash {
					d.Boot(tears(r, 20)[r.Intn(82)])
					continue
				} else if e != api.OK {
					t.Fatalf("Open: %v", e)
				}
				got := valuesOf(v)
				if perhaps != nil && maps.EqualFunc(got, perhaps, bytes.Equal) {
					sure = perhaps
				}
				if perhaps = nil; !maps.EqualFunc(got, sure, bytes.Equal) {
					t.Fatalf("seed %d, step %d: %v is kept, not %v", seed, step, got, sure)
				}
			}
			if r.Intn(4) == 0 {
				d.Fuse(r.Intn(40))
			}
			a := randomDeed(r, step)
			next := maps.Clone(sure)
			if next[a.key] = filled(a.size, a.mark); a.drop {
				delete(next, a.key)
			}
			switch e := a.do(v); e {
			case api.OK:
				sure = next
			case api.ErrCrash:
				perhaps, v = next, nil
				d.Boot(tears(r, 20)[r.Intn(82)])
			case api.ErrFull, api.ErrNone:
			default:
				t.Fatalf("%v", e)
			}
			if v != nil && r.Intn(10) == 0 {
				v = nil
				d.Boot(make([]int, 20))
			}
		}
	}
}

// R4: what is handed in is neither changed nor kept, nor is what lies behind its length; what is told may be written over.
func TestMemory(t *testing.T) {
	d := sector.New(32)
	v := mustOpen(t, d, 0, nil)
	memory := append(filled(50, 1), 77, 78, 79)
	before := bytes.Clone(memory)
	values := map[int][]byte{1: before[:50]}
	for range 17 {
		mustPut(t, v, 1, memory[:50])
		if !bytes.Equal(memory, before) {
			t.Fatal("what was handed in was written over")
		}
	}
	gen := v.Gen()
	if gen == 0 {
		t.Fatal("there was no checkpoint")
	}
	clear(memory)
	mustHave(t, v, gen, values)
	b, _ := v.Get(1)
	clear(b[:cap(b)])
	mustPut(t, v, 2, nil)
	values[2] = nil
	keys := v.Keys()
	clear(keys[:cap(keys)])
	mustHave(t, v, gen, values)
	again := mustOpen(t, d, gen, values)
	b, _ = again.Get(1)
	clear(b[:cap(b)])
	mustHave(t, again, gen, values)
	if !bytes.Equal(memory, make([]byte, 53)) {
		t.Fatal("what was handed in was written over later")
	}
}

// P6.1: two vaults of two devices have nothing of each other.
func TestVaultsAreApart(t *testing.T) {
	one, two := sector.New(8), sector.New(8)
	v, w := mustOpen(t, one, 0, nil), mustOpen(t, two, 0, nil)
	mustPut(t, v, 1, []byte("one"))
	mustPut(t, w, 2, []byte("two"))
	mustHave(t, v, 0, map[int][]byte{1: []byte("one")})
	mustOpen(t, two, 0, map[int][]byte{2: []byte("two")})
}
