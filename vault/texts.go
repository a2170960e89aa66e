package vault

import (
	"maps"
	"slices"

	"dotterel/api"
	"dotterel/pack"
)

// What a change does with its key, as its second field.
const (
	drop = iota
	put
)

// change is what a record of the journal does: the key has the value, or has none.
type change struct {
	key, kind int
	value     []byte
}

// apply does to the values what the change does.
func (c change) apply(values map[int][]byte) {
	if c.kind == drop {
		delete(values, c.key)
		return
	}
	values[c.key] = c.value
}

// text is the change as a record's bytes.
func (c change) text() []byte {
	var w pack.Writer
	w.Num(c.key)
	w.Num(c.kind)
	if c.kind == put {
		w.Text(c.value)
	}
	return w.Bytes()
}

// changeOf is the change that a record's bytes are; false: they are none.
func changeOf(text []byte) (change, bool) {
	r := pack.Read(text)
	var c change
	c.key = r.Num(maxKey)
	c.kind = r.Num(put)
	if c.kind == put {
		c.value = r.Text(MaxValue)
	}
	if r.End() != api.OK {
		return change{}, false
	}
	return c, true
}

// checkpointOf is the bytes of a checkpoint's records.
func checkpointOf(values map[int][]byte) [][]byte {
	var head pack.Writer
	head.Num(len(values))
	texts := [][]byte{head.Bytes()}
	for _, key := range slices.Sorted(maps.Keys(values)) {
		var w pack.Writer
		w.Num(key)
		w.Text(values[key])
		texts = append(texts, w.Bytes())
	}
	return texts
}

// valuesOf is the values of the checkpoint with whose records these bytes begin; false: it isn't right.
func valuesOf(texts [][]byte) (map[int][]byte, bool) {
	if len(texts) == 0 {
		return nil, false
	}
	head := pack.Read(texts[0])
	many := head.Num(len(texts) - 1)
	if head.End() != api.OK {
		return nil, false
	}
	values := map[int][]byte{}
	least := 0
	for _, text := range texts[1 : 1+many] {
		r := pack.Read(text)
		key := r.Num(maxKey)
		value := r.Text(MaxValue)
		if r.End() != api.OK || key < least {
			return nil, false
		}
		values[key] = value
		least = key + 1
	}
	return values, true
}
