package mark

import (
	"bytes"
	"math"
	"slices"
	"testing"

	"reprise/api"
)

const (
	// top is the greatest batch and the greatest attempt of a mark.
	top = 1 << 40
	// most is how many keys a mark has at most.
	most = 64
	// lastKey is the greatest key.
	lastKey = 1<<64 - 1
	// filler is what stands in the spare room of bytes that are handed in.
	filler = 0xa5
	// fillKey is what stands in the spare room of keys that are handed in.
	fillKey = 77
	// room is how much of it there is.
	room = 80
)

func of(batch int, attempt int, keys ...uint64) api.Mark {
	return api.Mark{Batch: batch, Attempt: attempt, Keys: keys}
}

// rows: so many keys that rise by step.
func rows(from uint64, count int, step uint64) []uint64 {
	keys := []uint64{}
	for i := range uint64(count) {
		keys = append(keys, from+i*step)
	}
	return keys
}

// counts: numbers from 1 on that a batch and an attempt may be, those at which a number's length rises among them.
func counts() []int {
	return []int{1, 2, 127, 128, 300, 1<<14 - 1, 1 << 14, 1 << 21, 1<<31 - 1, 1 << 31, 1 << 32, 1<<35 - 1, 1 << 35, top - 1, top}
}

// noCounts: numbers that neither is, what would be one if it were cut among them.
func noCounts() []int {
	return []int{-1, -2, -top, -top - 1, top + 1, top + 2, 2 * top, 1 << 62, 1<<62 + 1, math.MinInt, math.MinInt + 1, math.MaxInt - 1, math.MaxInt}
}

// greatCounts: numbers above the greatest that are a batch's or an attempt's, as they stand in bytes.
func greatCounts() []uint64 {
	return []uint64{top + 1, top + 2, top + 128, 2 * top, 1 << 62, 1<<63 - 1, 1 << 63, 1<<63 + 1, 1<<64 - 2, 1<<64 - 1}
}

// someKeys: keys at which the length of a number rises, and the ends.
func someKeys() []uint64 {
	list := []uint64{0, 1, 5}
	for bits := 7; bits < 64; bits += 7 {
		list = append(list, 1<<bits-1, 1<<bits)
	}
	return append(list, lastKey-1, lastKey)
}

// notRising: lists of keys that don't rise.
func notRising() [][]uint64 {
	long := rows(0, most, 3)
	long[most-1] = long[most-2]
	longer := rows(0, 100, 1)
	longer[99] = 0
	first := rows(10, most, 1)
	first[0] = 11
	return [][]uint64{
		{0, 0}, {5, 5}, {5, 4}, {5, 2}, {1, 0}, {lastKey, lastKey}, {lastKey, lastKey - 1}, {lastKey, 0}, {2, 5, 5}, {5, 5, 9}, {2, 9, 5}, {9, 2, 5}, {9, 5, 2}, {1 << 63, 1<<63 - 1}, {1 << 32, 1}, {256, 255}, long, longer, first,
	}
}

// number is x as chapter 2 writes it, made by division.
func number(x uint64) []byte {
	b := []byte{}
	for ; x/128 > 0; x /= 128 {
		b = append(b, byte(128+x%128))
	}
	return append(b, byte(x))
}

// numbers: each as chapter 2 writes it, one behind the other.
func numbers(list ...uint64) []byte {
	b := []byte{}
	for _, x := range list {
		b = append(b, number(x)...)
	}
	return b
}

// form: what the chapter calls a mark's bytes.
func form(m api.Mark) []byte {
	return append(numbers(uint64(m.Batch), uint64(m.Attempt), uint64(len(m.Keys))), numbers(m.Keys...)...)
}

// right: whether a mark is right, written as the chapter's words go.
func right(m api.Mark) bool {
	if m.Batch < 0 || m.Batch > top || m.Attempt < 0 || m.Attempt > top || len(m.Keys) > most {
		return false
	}
	for i := range m.Keys {
		for _, ahead := range m.Keys[:i] {
			if ahead >= m.Keys[i] {
				return false
			}
		}
	}
	return m.Batch == 0 && m.Attempt == 0 && len(m.Keys) == 0 || m.Batch != 0 && m.Attempt != 0
}

// taken: chapter 2's Take, written as its words go.
func taken(b []byte) (uint64, []byte, api.Errno) {
	x, factor := uint64(0), uint64(1)
	for i, c := range b {
		if i == 9 && c > 1 || c == 0 && i > 0 {
			return 0, nil, api.ErrForm
		}
		x += uint64(c%128) * factor
		factor *= 128
		if c < 128 {
			return x, b[i+1:], api.OK
		}
	}
	return 0, nil, api.ErrShort
}

// read: what P12.2 asks of bytes, written as its words go.
func read(b []byte) (api.Mark, api.Errno) {
	m := api.Mark{}
	for _, field := range []*int{&m.Batch, &m.Attempt} {
		x, left, e := taken(b)
		if e != api.OK {
			return api.Mark{}, e
		}
		if x > top {
			return api.Mark{}, api.ErrForm
		}
		*field, b = int(x), left
	}
	many, b, e := taken(b)
	if e != api.OK {
		return api.Mark{}, e
	}
	if many > most {
		return api.Mark{}, api.ErrLong
	}
	for range many {
		var key uint64
		if key, b, e = taken(b); e != api.OK {
			return api.Mark{}, e
		}
		m.Keys = append(m.Keys, key)
	}
	if len(b) > 0 {
		return api.Mark{}, api.ErrTail
	}
	if !right(m) {
		return api.Mark{}, api.ErrArg
	}
	return m, api.OK
}

func same(a api.Mark, b api.Mark) bool {
	return a.Batch == b.Batch && a.Attempt == b.Attempt && slices.Equal(a.Keys, b.Keys)
}

// roomy is a list with spare room behind it that is filled.
func roomy[E any](list []E, with E) []E {
	return append(slices.Clone(list), slices.Repeat([]E{with}, room)...)[:len(list)]
}

// wantRoomy tells if a list, or the spare room behind it, isn't what roomy made of old.
func wantRoomy[E comparable](t *testing.T, what string, list []E, old []E, with E) {
	t.Helper()
	if !slices.Equal(list, old) || !slices.Equal(list[len(list):len(list)+room], slices.Repeat([]E{with}, room)) {
		t.Errorf("%s: what was handed in has become %v", what, list[:len(list)+room])
	}
}

// spoil writes over a list and over its spare room, and grows it.
func spoil[E any](list []E, with E) {
	all := list[:cap(list)]
	for i := range all {
		all[i] = with
	}
	_ = append(list, with)
}

// wantSound holds Sound to an answer.
func wantSound(t *testing.T, m api.Mark, want bool) {
	t.Helper()
	in := api.Mark{Batch: m.Batch, Attempt: m.Attempt, Keys: roomy(m.Keys, fillKey)}
	if got := Sound(in); got != want {
		t.Errorf("Sound(%v) is %t", m, got)
	}
	wantRoomy(t, "Sound", in.Keys, m.Keys, fillKey)
}

func wantEncode(t *testing.T, m api.Mark, want []byte, code api.Errno) {
	t.Helper()
	in := api.Mark{Batch: m.Batch, Attempt: m.Attempt, Keys: roomy(m.Keys, fillKey)}
	first, e := Encode(in)
	wantRoomy(t, "Encode", in.Keys, m.Keys, fillKey)
	if !bytes.Equal(first, want) || e != code {
		t.Errorf("Encode(%v) is %x, %d, not %x, %d", m, first, e, want, code)
	}
	second, _ := Encode(in)
	spoil(first, filler)
	third, e := Encode(in)
	wantRoomy(t, "Encode, its answer written over", in.Keys, m.Keys, fillKey)
	if !bytes.Equal(second, want) || !bytes.Equal(third, want) || e != code {
		t.Errorf("Encode(%v), its answer written over, is %x and %x", m, second, third)
	}
}

func wantDecode(t *testing.T, b []byte, want api.Mark, code api.Errno) {
	t.Helper()
	in := roomy(b, filler)
	first, e := Decode(in)
	wantRoomy(t, "Decode", in, b, filler)
	if !same(first, want) || e != code {
		t.Errorf("Decode(%x) is %v, %d, not %v, %d", b, first, e, want, code)
	}
	second, _ := Decode(in)
	spoil(first.Keys, fillKey)
	wantRoomy(t, "Decode, its answer written over", in, b, filler)
	spoil(in, filler)
	if !same(second, want) {
		t.Errorf("Decode(%x): the answer hangs on the bytes or on the other answer", b)
	}
	if tight, e := Decode(slices.Clip(slices.Clone(b))); !same(tight, want) || e != code {
		t.Errorf("Decode(%x) without spare room is %v, %d", b, tight, e)
	}
}

// wantFault: Decode answers this error, and nothing beside.
func wantFault(t *testing.T, b []byte, code api.Errno) {
	t.Helper()
	wantDecode(t, b, api.Mark{}, code)
}

// wantRight: a right mark, its bytes, and what Decode makes of them.
func wantRight(t *testing.T, m api.Mark) {
	t.Helper()
	wantSound(t, m, true)
	wantEncode(t, m, form(m), api.OK)
	wantDecode(t, form(m), m, api.OK)
}

// wantWrong: a mark that isn't right.
func wantWrong(t *testing.T, m api.Mark) {
	t.Helper()
	wantSound(t, m, false)
	wantEncode(t, m, nil, api.ErrArg)
}

// wantRead holds Decode to P12.2 as the test's own functions say it, and to there being one form.
func wantRead(t *testing.T, b []byte) api.Errno {
	t.Helper()
	want, code := read(b)
	got, e := Decode(b)
	if !same(got, want) || e != code {
		t.Fatalf("Decode(%x) is %v, %d, not %v, %d", b, got, e, want, code)
	}
	if e != api.OK {
		return e
	}
	if again, e := Encode(got); !bytes.Equal(again, b) || e != api.OK {
		t.Fatalf("Encode of what Decode makes of %x is %x, %d", b, again, e)
	}
	return e
}

// wantCompare: the answer, and the other way round its opposite.
func wantCompare(t *testing.T, a [2]int, b [2]int, want int) {
	t.Helper()
	if got := Compare(a[0], a[1], b[0], b[1]); got != want {
		t.Errorf("Compare of %v and %v is %d, not %d", a, b, got, want)
	}
	if got := Compare(b[0], b[1], a[0], a[1]); got != -want {
		t.Errorf("Compare of %v and %v is %d, not %d", b, a, got, -want)
	}
}

// wantJudge holds Judge to an answer that no keys play a part in.
func wantJudge(t *testing.T, batch int, attempt int, ofBatch int, ofAttempt int, want api.Errno) {
	t.Helper()
	for _, keys := range [][]uint64{nil, {}, {1}, {5, 2, 5}, rows(0, 70, 1)} {
		in := api.Mark{Batch: batch, Attempt: attempt, Keys: roomy(keys, fillKey)}
		if got := Judge(in, ofBatch, ofAttempt); got != want {
			t.Errorf("Judge(%v, %d, %d) is %d, not %d", in, ofBatch, ofAttempt, got, want)
		}
		wantRoomy(t, "Judge", in.Keys, keys, fillKey)
	}
}

func wantHas(t *testing.T, m api.Mark, key uint64, want bool) {
	t.Helper()
	in := api.Mark{Batch: m.Batch, Attempt: m.Attempt, Keys: roomy(m.Keys, fillKey)}
	if got := Has(in, key); got != want {
		t.Errorf("Has(%v, %d) is %t", m, key, got)
	}
	wantRoomy(t, "Has", in.Keys, m.Keys, fillKey)
}

func wantRising(t *testing.T, keys []uint64, want bool) {
	t.Helper()
	in := roomy(keys, fillKey)
	if got := Rising(in); got != want {
		t.Errorf("Rising(%d) is %t", keys, got)
	}
	wantRoomy(t, "Rising", in, keys, fillKey)
	if got := Rising(slices.Clip(slices.Clone(keys))); got != want {
		t.Errorf("Rising(%d) without spare room is %t", keys, got)
	}
}

// wantUnion tells of an answer that isn't this one, and of one that shares memory with what was handed in or with a second answer.
func wantUnion(t *testing.T, a []uint64, b []uint64, want []uint64) {
	t.Helper()
	inA, inB := roomy(a, fillKey), roomy(b, fillKey)
	first := Union(inA, inB)
	if !slices.Equal(first, want) {
		t.Errorf("Union(%d, %d) is %d, not %d", a, b, first, want)
	}
	second := Union(inA, inB)
	spoil(first, 3)
	wantRoomy(t, "Union, its answer written over", inA, a, fillKey)
	wantRoomy(t, "Union, its answer written over", inB, b, fillKey)
	third := Union(inA, inB)
	if !slices.Equal(second, want) || !slices.Equal(third, want) {
		t.Errorf("Union(%d, %d), its answer written over, is %d and %d", a, b, second, third)
	}
	spoil(inA, 4)
	spoil(inB, 4)
	if !slices.Equal(third, want) {
		t.Errorf("Union(%d, %d): the answer hangs on what was handed in", a, b)
	}
	if tight := Union(slices.Clip(slices.Clone(a)), slices.Clip(slices.Clone(b))); !slices.Equal(tight, want) {
		t.Errorf("Union(%d, %d) without spare room is %d", a, b, tight)
	}
}

// kept: the keys of both lists, put one by one where they belong in a list that is kept.
func kept(a []uint64, b []uint64) []uint64 {
	list := []uint64{}
	for _, part := range [][]uint64{a, b} {
		for _, key := range part {
			at := 0
			for at < len(list) && list[at] < key {
				at++
			}
			if at == len(list) || list[at] != key {
				list = slices.Insert(list, at, key)
			}
		}
	}
	return list
}

// dice: numbers that look like chance, always the same ones.
type dice struct{ state uint64 }

func (d *dice) next() uint64 {
	d.state = d.state*6364136223846793005 + 1442695040888963407
	return d.state ^ d.state>>29
}

func (d *dice) below(n int) int { return int(d.next() >> 8 % uint64(n)) }

// count: a batch or an attempt, from 1 on, of any length.
func (d *dice) count() int { return 1 + int(d.next()>>24>>d.below(40)) }

// keys: so many keys of any length that rise.
func (d *dice) keys(count int) []uint64 {
	keys := []uint64{}
	for len(keys) < count {
		keys = kept(keys, []uint64{d.next() >> d.below(64)})
	}
	return keys
}

// mark: a right mark with so many keys.
func (d *dice) mark(count int) api.Mark { return of(d.count(), d.count(), d.keys(count)...) }
