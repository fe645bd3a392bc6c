package store

import (
	"encoding/binary"
	"math"
	"slices"
	"testing"

	"reprise/api"
	"reprise/disk"
)

const (
	// top is the greatest batch, attempt and generation.
	top = 1 << 40
	// most is how many keys a mark has at most.
	most = 64
	// full is how many cells a page has at most, and whole how many a store has.
	full  = 16
	whole = 6 * full
	// lastKey is the greatest key.
	lastKey = 1<<64 - 1
	// oddNaN is the bits of a NaN that isn't the one that is told.
	oddNaN = 1<<63 | 2047<<52 | 5
	// room is how much spare room there is behind what is handed in.
	room = 70
)

var nothing = api.Value{}

func val(bits uint64) api.Value { return api.Value{Has: true, Bits: bits} }

// of: a cell without a key.
func of(prev api.Value, cur api.Value, batch int) api.Cell {
	return api.Cell{Prev: prev, Cur: cur, Batch: batch}
}

// at: a cell with this key.
func at(key uint64, c api.Cell) api.Cell {
	c.Key = key
	return c
}

func marked(batch int, attempt int, keys ...uint64) api.Mark {
	return api.Mark{Batch: batch, Attempt: attempt, Keys: keys}
}

// pairs: keys and bits by turns.
func pairs(list ...uint64) []api.Pair {
	table := []api.Pair{}
	for i := 0; i < len(list); i += 2 {
		table = append(table, api.Pair{Key: list[i], Val: val(list[i+1])})
	}
	return table
}

// rows: so many keys that rise by step.
func rows(from uint64, count int, step uint64) []uint64 {
	keys := []uint64{}
	for i := range uint64(count) {
		keys = append(keys, from+i*step)
	}
	return keys
}

// each: a table that has the same bits for each of these keys.
func each(keys []uint64, bits uint64) []api.Pair {
	table := []api.Pair{}
	for _, key := range keys {
		table = append(table, api.Pair{Key: key, Val: val(bits)})
	}
	return table
}

// kinds are all that there are.
func kinds() []int { return []int{1, 2, 3, 4} }

// noKinds are none, what would be one if it were cut among them.
func noKinds() []int {
	return []int{0, -1, 5, 6, -4, 255, 256, 256 + 1, 1<<16 + 2, 1<<32 + 3, math.MaxInt, math.MinInt, math.MinInt + 1}
}

// noCounts: numbers that are neither a batch nor an attempt, what would be one if it were cut among them.
func noCounts() []int {
	return []int{0, -1, -2, -top, top + 1, top + 2, 2 * top, 1 << 62, math.MaxInt, math.MaxInt - 1, math.MinInt, math.MinInt + 1}
}

// notRising: lists of keys that don't rise.
func notRising() [][]uint64 {
	long := rows(0, most, 3)
	long[most-1] = long[most-2]
	return [][]uint64{{0, 0}, {5, 5}, {5, 4}, {lastKey, lastKey}, {lastKey, 0}, {2, 5, 5}, {5, 5, 9}, {9, 2, 5}, {1 << 63, 1<<63 - 1}, {1 << 32, 1}, long}
}

// noTables: lists that are no tables, of values that are fit for each kind.
func noTables() [][]api.Pair {
	list := [][]api.Pair{
		{{Key: 2}}, {{Key: 2, Val: api.Value{Bits: 3}}}, {{Key: 2, Val: val(1)}, {Key: 9}}, {{Key: 2}, {Key: 9, Val: val(1)}},
	}
	for _, keys := range notRising() {
		list = append(list, each(keys, 1))
	}
	return list
}

// number is x as chapter 2 writes it.
func number(x uint64) string { return string(binary.AppendUvarint(nil, x)) }

// numbers: each as chapter 2 writes it, one behind the other.
func numbers(list ...uint64) string {
	text := ""
	for _, x := range list {
		text += number(x)
	}
	return text
}

// word is x as eight bytes.
func word(x uint64) string { return string(binary.LittleEndian.AppendUint64(nil, x)) }

// markText: a mark's bytes.
func markText(m api.Mark) string {
	return numbers(uint64(m.Batch), uint64(m.Attempt), uint64(len(m.Keys))) + numbers(m.Keys...)
}

// cellsText: a page's bytes of these cells, in whatever order they stand.
func cellsText(cells ...api.Cell) string {
	if len(cells) == 0 {
		return ""
	}
	text := number(uint64(len(cells)))
	for _, c := range cells {
		has, words := byte(0), ""
		if c.Prev.Has {
			has, words = has+1, words+word(c.Prev.Bits)
		}
		if c.Cur.Has {
			has, words = has+2, words+word(c.Cur.Bits)
		}
		text += number(c.Key) + string([]byte{has}) + words + number(uint64(c.Batch))
	}
	return text
}

// rootText: a root's bytes.
func rootText(gen uint64, blocks ...int) string {
	text := numbers(gen, uint64(len(blocks)))
	for _, block := range blocks {
		text += number(uint64(block))
	}
	return text
}

// named: so many texts, each another one, and none a root.
func named(count int) []string {
	var list []string
	for i := range count {
		list = append(list, "block "+string(rune('A'+i)))
	}
	return list
}

// laidOut: the image of a book that has these pages, of generation gen, on a disk of at least 16 blocks.
func laidOut(gen uint64, texts ...string) []string {
	blocks := make([]int, len(texts))
	image := []string{"", ""}
	for i, text := range texts {
		if text != "" {
			blocks[i] = len(image)
			image = append(image, text)
		}
	}
	image[0] = rootText(gen, blocks...)
	return append(image, make([]string, max(18, len(image))-len(image))...)
}

// storeOf: the image of a store with this mark and these cells, from page 1 on.
func storeOf(m api.Mark, cells ...[]api.Cell) []string { return storeAt(7, m, cells...) }

// storeAt: the same, of generation gen.
func storeAt(gen uint64, m api.Mark, cells ...[]api.Cell) []string {
	texts := []string{markText(m)}
	for _, list := range cells {
		texts = append(texts, cellsText(list...))
	}
	return laidOut(gen, append(texts, make([]string, 7-len(texts))...)...)
}

func loaded(t *testing.T, image []string) *disk.Disk {
	t.Helper()
	var blocks [][]byte
	for _, text := range image {
		blocks = append(blocks, []byte(text))
	}
	d, e := disk.Load(blocks)
	if e != api.OK {
		t.Fatalf("Load of %d blocks is %d", len(image), e)
	}
	return d
}

func imageOf(d *disk.Disk) []string {
	var list []string
	for _, block := range d.Image() {
		list = append(list, string(block))
	}
	return list
}

func wantImage(t *testing.T, d *disk.Disk, want []string) {
	t.Helper()
	if got := imageOf(d); !slices.Equal(got, want) {
		t.Errorf("the disk is %q, not %q", got, want)
	}
}

func same(a api.Mark, b api.Mark) bool {
	return a.Batch == b.Batch && a.Attempt == b.Attempt && slices.Equal(a.Keys, b.Keys)
}

// roomy is a list with spare room behind it that is filled.
func roomy[E any](list []E, with E) []E {
	return append(slices.Clone(list), slices.Repeat([]E{with}, room)...)[:len(list)]
}

// wantRoomy tells if a list, or the spare room behind it, isn't what roomy made of old.
func wantRoomy[E comparable](t *testing.T, what string, list []E, old []E, with E) {
	t.Helper()
	if !slices.Equal(list, old) || !slices.Equal(list[len(list):len(list)+room], slices.Repeat([]E{with}, room)) {
		t.Errorf("%s: what was handed in has become %v", what, list[:len(list)+room])
	}
}

// spoil writes over a list and over its spare room, and grows it.
func spoil[E any](list []E, with E) {
	all := list[:cap(list)]
	for i := range all {
		all[i] = with
	}
	_ = append(list, with)
}

// wantBegin hands keys in with spare room, and writes over them afterwards.
func wantBegin(t *testing.T, s *Store, batch int, attempt int, keys []uint64, want api.Errno) {
	t.Helper()
	in := roomy(keys, 77)
	if e := s.Begin(batch, attempt, in); e != want {
		t.Errorf("Begin(%d, %d, %d) is %d, not %d", batch, attempt, keys, e, want)
	}
	wantRoomy(t, "Begin", in, keys, 77)
	spoil(in, 78)
}

// wantApply hands a table in with spare room, and writes over it afterwards.
func wantApply(t *testing.T, s *Store, batch int, attempt int, table []api.Pair, want api.Errno) {
	t.Helper()
	in := roomy(table, api.Pair{Key: 77, Val: val(77)})
	if e := s.Apply(batch, attempt, in); e != want {
		t.Errorf("Apply(%d, %d, %v) is %d, not %d", batch, attempt, table, e, want)
	}
	wantRoomy(t, "Apply", in, table, api.Pair{Key: 77, Val: val(77)})
	spoil(in, api.Pair{Key: 78, Val: val(78)})
}

func wantQuery(t *testing.T, s *Store, key uint64, committed int, want api.Value, code api.Errno) {
	t.Helper()
	if v, e := s.Query(key, committed); v != want || e != code {
		t.Errorf("Query(%d, %d) is %v, %d, not %v, %d", key, committed, v, e, want, code)
	}
}

// wantMark writes over what it was answered.
func wantMark(t *testing.T, s *Store, want api.Mark, code api.Errno) {
	t.Helper()
	m, e := s.Mark()
	if !same(m, want) || e != code {
		t.Errorf("Mark() is %v, %d, not %v, %d", m, e, want, code)
	}
	spoil(m.Keys, 79)
}

// wantCells writes over what it was answered.
func wantCells(t *testing.T, s *Store, code api.Errno, want ...api.Cell) {
	t.Helper()
	cells, e := s.Cells()
	if !slices.Equal(cells, want) || e != code {
		t.Errorf("Cells() is %v, %d, not %v, %d", cells, e, want, code)
	}
	spoil(cells, api.Cell{Key: 80, Cur: val(80), Batch: 80})
}

func wantEnded(t *testing.T, s *Store, want bool) {
	t.Helper()
	if ended := s.Ended(); ended != want {
		t.Errorf("Ended() is %t", ended)
	}
}

// wantRefused: every call that answers an error answers this one, whatever it is given.
func wantRefused(t *testing.T, s *Store, want api.Errno) {
	t.Helper()
	for _, batch := range []int{math.MinInt, 0, 1, 2, top, top + 1, math.MaxInt} {
		for _, attempt := range []int{-1, 0, 1, 9, top + 1} {
			for _, keys := range [][]uint64{nil, {1}, {1, 2}, {3, 3}, rows(0, most+1, 1)} {
				wantBegin(t, s, batch, attempt, keys, want)
				wantApply(t, s, batch, attempt, each(keys, oddNaN), want)
			}
		}
		wantApply(t, s, batch, batch, []api.Pair{{Key: 1}}, want)
		for _, key := range []uint64{0, 1, lastKey} {
			wantQuery(t, s, key, batch, nothing, want)
		}
	}
	wantMark(t, s, api.Mark{}, want)
	wantCells(t, s, want)
}

// firsts: a call each that answers an error, to be the first one behind a power that went.
func firsts() map[string]func(s *Store) api.Errno {
	return map[string]func(s *Store) api.Errno{
		"Begin":                 func(s *Store) api.Errno { return s.Begin(1, 2, []uint64{2}) },
		"Begin, again":          func(s *Store) api.Errno { return s.Begin(1, 1, []uint64{2, 9}) },
		"Begin, fenced":         func(s *Store) api.Errno { return s.Begin(0, 0, []uint64{2, 2}) },
		"Begin, ahead":          func(s *Store) api.Errno { return s.Begin(9, 1, nil) },
		"Apply":                 func(s *Store) api.Errno { return s.Apply(1, 1, pairs(2, 7)) },
		"Apply, again":          func(s *Store) api.Errno { return s.Apply(1, 1, pairs(2, 3)) },
		"Apply, nothing":        func(s *Store) api.Errno { return s.Apply(1, 1, nil) },
		"Apply, no table":       func(s *Store) api.Errno { return s.Apply(1, 1, pairs(2, 7, 2, 7)) },
		"Apply, another key":    func(s *Store) api.Errno { return s.Apply(1, 1, pairs(3, 7)) },
		"Query":                 func(s *Store) api.Errno { return second(s.Query(2, 1)) },
		"Query, without a cell": func(s *Store) api.Errno { return second(s.Query(5, 1)) },
		"Mark":                  func(s *Store) api.Errno { return second(s.Mark()) },
		"Cells":                 func(s *Store) api.Errno { return second(s.Cells()) },
	}
}

func second[E any](_ E, e api.Errno) api.Errno { return e }

// dice: numbers that look like chance, always the same ones.
type dice struct{ state uint64 }

func (d *dice) next() uint64 {
	d.state = d.state*6364136223846793005 + 1442695040888963407
	return d.state ^ d.state>>29
}

func (d *dice) below(n int) int { return int(d.next() >> 8 % uint64(n)) }

// some: those of these keys that the dice pick, in their order.
func (d *dice) some(keys []uint64) []uint64 {
	list := []uint64{}
	for _, key := range keys {
		if d.below(2) == 0 {
			list = append(list, key)
		}
	}
	return list
}

// bits: a value's of the kind.
func (d *dice) bits(kind int) uint64 {
	bits := d.next() >> d.below(64)
	if d.below(4) == 0 {
		bits = []uint64{0, 1 << 63, 2047 << 52, api.QuietNaN, lastKey >> 1, lastKey}[d.below(6)]
	}
	if kind > 2 && isNaN(bits) {
		return api.QuietNaN
	}
	return bits
}

// table: one of some of these keys.
func (d *dice) table(kind int, keys []uint64) []api.Pair {
	list := []api.Pair{}
	for _, key := range d.some(keys) {
		list = append(list, api.Pair{Key: key, Val: val(d.bits(kind))})
	}
	return list
}
