package bucket

import (
	"bytes"
	"math"
	"slices"
	"testing"

	"reprise/api"
)

const (
	// top is the greatest batch of a page.
	top = 1 << 40
	// most is how many cells a page has at most.
	most = 16
	// filler is what stands in the spare room of bytes that are handed in.
	filler = 0xa5
	// room is how much of it there is.
	room = 24
)

var nothing = api.Value{}

// filling is what stands in the spare room of cells that are handed in.
var filling = api.Cell{Key: 77, Prev: void(78), Cur: val(79), Batch: -80}

func val(bits uint64) api.Value { return api.Value{Has: true, Bits: bits} }

// void: nothing, with bits that mean nothing.
func void(bits uint64) api.Value { return api.Value{Bits: bits} }

// of: cells with these keys, each with another value and batch.
func of(keys ...uint64) []api.Cell {
	cells := []api.Cell{}
	for i, key := range keys {
		cells = append(cells, api.Cell{Key: key, Prev: val(key + 1), Cur: val(key + 2), Batch: i + 1})
	}
	return cells
}

// rising: cells with so many keys, by twos from 0 on.
func rising(count int) []api.Cell {
	keys := []uint64{}
	for i := range count {
		keys = append(keys, uint64(2*i))
	}
	return of(keys...)
}

// keysOf: keys at which the length of a number rises, and the ends.
func keysOf() []uint64 {
	list := []uint64{0, 1, 5}
	for bits := 7; bits < 64; bits += 7 {
		list = append(list, 1<<bits-1, 1<<bits)
	}
	return append(list, 1<<64-2, 1<<64-1)
}

// batchesOf: batches at which the length of a number rises, and the ends.
func batchesOf() []int {
	return []int{0, 1, 127, 128, 1<<14 - 1, 1 << 14, 1 << 21, 1<<31 - 1, 1 << 31, 1 << 32, 1<<35 - 1, 1 << 35, top - 1, top}
}

// noBatches: numbers that no batch of a page has, what would be one if it were cut among them.
func noBatches() []int {
	return []int{-1, -2, -top, top + 1, top + 2, 2 * top, 1 << 62, 1<<62 + 1, math.MinInt, math.MinInt + 1, math.MaxInt - 1, math.MaxInt}
}

// outOfOrder: lists of cells whose keys don't rise.
func outOfOrder() [][]api.Cell {
	long := rising(16)
	long[15].Key = long[14].Key
	longer := rising(40)
	longer[39].Key = 0
	return [][]api.Cell{
		of(5, 5), of(5, 2), of(0, 0), of(1<<64-1, 1<<64-1), of(1<<64-1, 0), of(2, 5, 5), of(5, 5, 9), of(2, 9, 5), of(9, 2, 5), of(1<<63, 1<<63-1), of(1<<32, 1), long, longer,
	}
}

// number is x as chapter 2 writes it, made by division.
func number(x uint64) []byte {
	b := []byte{}
	for ; x/128 > 0; x /= 128 {
		b = append(b, byte(128+x%128))
	}
	return append(b, byte(x))
}

// word is x as eight bytes, made by division.
func word(x uint64) []byte {
	b := []byte{}
	for range 8 {
		b = append(b, byte(x%256))
		x /= 256
	}
	return b
}

// page: what the chapter calls a page's bytes, of cells that have no fault.
func page(cells []api.Cell) []byte {
	if len(cells) == 0 {
		return nil
	}
	b := number(uint64(len(cells)))
	for _, c := range cells {
		b = append(b, number(c.Key)...)
		switch {
		case c.Prev.Has && c.Cur.Has:
			b = append(append(append(b, 3), word(c.Prev.Bits)...), word(c.Cur.Bits)...)
		case c.Prev.Has:
			b = append(append(b, 1), word(c.Prev.Bits)...)
		case c.Cur.Has:
			b = append(append(b, 2), word(c.Cur.Bits)...)
		default:
			b = append(b, 0)
		}
		b = append(b, number(uint64(c.Batch))...)
	}
	return b
}

// taken: chapter 2's Take, written as its words go.
func taken(b []byte) (uint64, []byte, api.Errno) {
	x, factor := uint64(0), uint64(1)
	for i, c := range b {
		if i == 9 && c > 1 || c == 0 && i > 0 {
			return 0, nil, api.ErrForm
		}
		x += uint64(c%128) * factor
		factor *= 128
		if c < 128 {
			return x, b[i+1:], api.OK
		}
	}
	return 0, nil, api.ErrShort
}

// read: what P11.2 asks of bytes, written as its words go.
func read(b []byte) ([]api.Cell, api.Errno) {
	if len(b) == 0 {
		return nil, api.OK
	}
	count, left, e := taken(b)
	switch {
	case e != api.OK:
		return nil, e
	case count == 0:
		return nil, api.ErrForm
	case count > most:
		return nil, api.ErrLong
	}
	var cells []api.Cell
	for range count {
		var c api.Cell
		if c, left, e = readCell(left, cells); e != api.OK {
			return nil, e
		}
		cells = append(cells, c)
	}
	if len(left) > 0 {
		return nil, api.ErrTail
	}
	return cells, api.OK
}

func readCell(b []byte, ahead []api.Cell) (api.Cell, []byte, api.Errno) {
	var c api.Cell
	key, b, e := taken(b)
	switch {
	case e != api.OK:
		return c, nil, e
	case len(ahead) > 0 && key <= ahead[len(ahead)-1].Key:
		return c, nil, api.ErrOrder
	case len(b) == 0:
		return c, nil, api.ErrShort
	case b[0] > 3:
		return c, nil, api.ErrForm
	}
	c.Key = key
	has, b := b[0], b[1:]
	for i, v := range []*api.Value{&c.Prev, &c.Cur} {
		if has>>i%2 == 0 {
			continue
		}
		if len(b) < 8 {
			return c, nil, api.ErrShort
		}
		v.Has = true
		for j, x := range b[:8] {
			v.Bits += uint64(x) << (8 * j)
		}
		b = b[8:]
	}
	batch, b, e := taken(b)
	if e == api.OK && batch > top {
		e = api.ErrForm
	}
	c.Batch = int(batch)
	return c, b, e
}

// roomyBytes is b with spare room behind it that is filled.
func roomyBytes(b []byte) []byte {
	return append(slices.Clone(b), bytes.Repeat([]byte{filler}, room)...)[:len(b)]
}

func wantRoomyBytes(t *testing.T, what string, b []byte, old []byte) {
	t.Helper()
	if !bytes.Equal(b, old) || !bytes.Equal(b[len(b):len(b)+room], bytes.Repeat([]byte{filler}, room)) {
		t.Errorf("%s: what was handed in has become %x", what, b[:len(b)+room])
	}
}

// roomy is a list of cells with spare room behind it that is filled.
func roomy(cells []api.Cell) []api.Cell {
	return append(slices.Clone(cells), slices.Repeat([]api.Cell{filling}, room)...)[:len(cells)]
}

func wantRoomy(t *testing.T, what string, cells []api.Cell, old []api.Cell) {
	t.Helper()
	if !slices.Equal(cells, old) || !slices.Equal(cells[len(cells):len(cells)+room], slices.Repeat([]api.Cell{filling}, room)) {
		t.Errorf("%s: what was handed in has become %v", what, cells[:len(cells)+room])
	}
}

// spoil writes over a list and over its spare room, and grows it.
func spoil[E any](list []E, with E) {
	all := list[:cap(list)]
	for i := range all {
		all[i] = with
	}
	_ = append(list, with)
}

// wantCells tells of an answer that isn't this one, and of one that shares memory with what was handed in or with a second answer.
func wantCells(t *testing.T, what string, call func(cells []api.Cell) ([]api.Cell, api.Errno), cells []api.Cell, want []api.Cell, code api.Errno) {
	t.Helper()
	in := roomy(cells)
	first, e := call(in)
	wantRoomy(t, what, in, cells)
	if !slices.Equal(first, want) || e != code {
		t.Errorf("%s of %v is %v, %d, not %v, %d", what, cells, first, e, want, code)
	}
	second, _ := call(in)
	spoil(first, api.Cell{Key: 3, Batch: -3})
	wantRoomy(t, what+", its answer written over", in, cells)
	if !slices.Equal(second, want) {
		t.Errorf("%s of %v: two answers share memory", what, cells)
	}
	third, e := call(in)
	if !slices.Equal(third, want) || e != code {
		t.Errorf("%s of %v is %v, %d the third time", what, cells, third, e)
	}
	spoil(in, api.Cell{Key: 4, Batch: -4})
	if !slices.Equal(third, want) {
		t.Errorf("%s of %v: the answer hangs on what was handed in", what, cells)
	}
	if tight, e := call(slices.Clip(slices.Clone(cells))); !slices.Equal(tight, want) || e != code {
		t.Errorf("%s of %v without spare room is %v, %d", what, cells, tight, e)
	}
}

func wantPut(t *testing.T, cells []api.Cell, c api.Cell, want []api.Cell, code api.Errno) {
	t.Helper()
	wantCells(t, "Put", func(l []api.Cell) ([]api.Cell, api.Errno) { return Put(l, c) }, cells, want, code)
}

func wantDrop(t *testing.T, cells []api.Cell, key uint64, want []api.Cell, code api.Errno) {
	t.Helper()
	wantCells(t, "Drop", func(l []api.Cell) ([]api.Cell, api.Errno) { return Drop(l, key) }, cells, want, code)
}

func wantFind(t *testing.T, cells []api.Cell, key uint64, at int, there bool) {
	t.Helper()
	in := roomy(cells)
	if i, ok := Find(in, key); i != at || ok != there {
		t.Errorf("Find(%v, %d) is %d, %t, not %d, %t", cells, key, i, ok, at, there)
	}
	wantRoomy(t, "Find", in, cells)
}

func wantEncode(t *testing.T, cells []api.Cell, want []byte, code api.Errno) {
	t.Helper()
	in := roomy(cells)
	first, e := Encode(in)
	wantRoomy(t, "Encode", in, cells)
	if !bytes.Equal(first, want) || e != code {
		t.Errorf("Encode(%v) is %x, %d, not %x, %d", cells, first, e, want, code)
	}
	second, _ := Encode(in)
	spoil(first, filler)
	third, e := Encode(in)
	if !bytes.Equal(second, want) || !bytes.Equal(third, want) || e != code {
		t.Errorf("Encode(%v), its answer written over, is %x and %x", cells, second, third)
	}
}

func wantDecode(t *testing.T, b []byte, want []api.Cell, code api.Errno) {
	t.Helper()
	in := roomyBytes(b)
	first, e := Decode(in)
	wantRoomyBytes(t, "Decode", in, b)
	if !slices.Equal(first, want) || e != code {
		t.Errorf("Decode(%x) is %v, %d, not %v, %d", b, first, e, want, code)
	}
	second, _ := Decode(in)
	spoil(first, filling)
	wantRoomyBytes(t, "Decode, its answer written over", in, b)
	spoil(in, filler)
	if !slices.Equal(second, want) {
		t.Errorf("Decode(%x): the answer hangs on the bytes or on the other answer", b)
	}
	if tight, e := Decode(slices.Clip(slices.Clone(b))); !slices.Equal(tight, want) || e != code {
		t.Errorf("Decode(%x) without spare room is %v, %d", b, tight, e)
	}
}

// wantBoth: what Encode makes of cells without a fault, and what Decode makes of that.
func wantBoth(t *testing.T, cells []api.Cell) {
	t.Helper()
	wantEncode(t, cells, page(cells), api.OK)
	wantDecode(t, page(cells), cells, api.OK)
}

// wantRead holds Decode to P11.2 as the test's own functions say it, and to P11.5.
func wantRead(t *testing.T, b []byte) {
	t.Helper()
	want, code := read(b)
	got, e := Decode(b)
	if !slices.Equal(got, want) || e != code {
		t.Fatalf("Decode(%x) is %v, %d, not %v, %d", b, got, e, want, code)
	}
	if e != api.OK {
		return
	}
	if again, e := Encode(got); !bytes.Equal(again, b) || e != api.OK {
		t.Fatalf("Encode of what Decode makes of %x is %x, %d", b, again, e)
	}
}

// dice: numbers that look like chance, always the same ones.
type dice struct{ state uint64 }

func (d *dice) next() uint64 {
	d.state = d.state*6364136223846793005 + 1442695040888963407
	return d.state ^ d.state>>29
}

func (d *dice) below(n int) int { return int(d.next() >> 8 % uint64(n)) }

// value: nothing, or a value with bits of any length.
func (d *dice) value() api.Value {
	if d.below(3) == 0 {
		return nothing
	}
	return val(d.next() >> d.below(64))
}

// cells: so many cells in order, without a fault.
func (d *dice) cells(count int) []api.Cell {
	keys := map[uint64]struct{}{}
	for len(keys) < count {
		keys[d.next()>>d.below(64)] = struct{}{}
	}
	cells := []api.Cell{}
	for key := range keys {
		cells = append(cells, api.Cell{Key: key})
	}
	slices.SortFunc(cells, func(a api.Cell, b api.Cell) int {
		if a.Key < b.Key {
			return -1
		}
		return 1
	})
	for i := range cells {
		cells[i].Prev, cells[i].Cur, cells[i].Batch = d.value(), d.value(), int(d.next()>>24>>d.below(40))
	}
	return cells
}
