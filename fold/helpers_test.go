package fold

import (
	"math"
	"slices"
	"testing"

	"reprise/api"
	"reprise/ops"
)

var (
	minusNought = math.Copysign(0, -1)
	plusInf     = math.Inf(1)
	minusInf    = math.Inf(-1)
	nothing     = api.Value{}
)

const last = math.MaxUint64

func float(bits uint64) float64 { return math.Float64frombits(bits) }

func bits(x float64) uint64 { return math.Float64bits(x) }

func val(bits uint64) api.Value { return api.Value{Has: true, Bits: bits} }

func pair(key uint64, bits uint64) api.Pair { return api.Pair{Key: key, Val: val(bits)} }

// void: a pair whose value is nothing, with bits that mean nothing.
func void(key uint64, bits uint64) api.Pair { return api.Pair{Key: key, Val: api.Value{Bits: bits}} }

func rec(key uint64, x float64) api.Record { return api.Record{Key: key, Val: x} }

// minus: the bits of a number below 0 by its size.
func minus(size uint64) uint64 { return -size }

func kinds() []int { return []int{api.AggCount, api.AggSum, api.AggLeast, api.AggMost} }

// noKinds has numbers beside the kinds, the ends of int, and what would be a kind if it were cut.
func noKinds() []int {
	return []int{0, 5, -1, -4, math.MinInt, math.MaxInt, 256 + 1, 1<<16 + 2, 1<<32 + 3}
}

// pipelines keep all, drop some, trap some, and turn keys.
func pipelines() [][]api.Op {
	return [][]api.Op{
		nil,
		{},
		{{Kind: api.OpLess, X: 10}},
		{{Kind: api.OpNeed}},
		{{Kind: api.OpReal}, {Kind: api.OpInverse}, {Kind: api.OpNeed}, {Kind: api.OpRegroup, N: 2}},
		{{Kind: api.OpMore, X: -5}, {Kind: api.OpPer, N: 100}, {Kind: api.OpSide}},
		slices.Repeat([]api.Op{{Kind: api.OpNeg}}, 8),
		{{Kind: api.OpRegroup, N: 1}},
	}
}

// noPipelines has a step that is none by its kind or by its N, at the beginning or at the end, and too many steps.
func noPipelines() [][]api.Op {
	return [][]api.Op{
		{{}},
		{{Kind: 13}},
		{{Kind: -1}},
		{{Kind: api.OpScale, N: 2201}},
		{{Kind: api.OpRegroup}},
		{{Kind: api.OpLess, X: minusInf}, {Kind: math.MaxInt}},
		slices.Repeat([]api.Op{{Kind: api.OpNeg}}, 9),
	}
}

// tables has some without pairs, with one pair and with more, values that aren't fit among them.
func tables() [][]api.Pair {
	return [][]api.Pair{
		nil,
		{},
		{pair(0, 0)},
		{pair(last, last)},
		{pair(3, 1<<63)},
		{pair(0, 7), pair(1, last), pair(last, 5)},
		{pair(1, bits(minusNought)), pair(2, bits(plusInf)), pair(3, 0xfff0000000000001), pair(1<<63, bits(-1))},
		{pair(2, bits(0)), pair(3, bits(minusInf)), pair(1<<63-1, 1), pair(1<<63, api.QuietNaN), pair(1<<63+1, bits(1))},
		{pair(5, 1), pair(6, 0x7fffffffffffffff)},
	}
}

// noTables has keys that fall and that stand twice, and values that are nothing, at the beginning, in the middle and at the end.
func noTables() [][]api.Pair {
	return [][]api.Pair{
		{pair(2, 1), pair(1, 1)},
		{pair(1, 0), pair(0, 0)},
		{pair(last, 1), pair(0, 1)},
		{pair(1<<63, 1), pair(1<<63-1, 1)},
		{pair(1, 1), pair(1, 1)},
		{pair(0, 1), pair(0, 1)},
		{pair(last, 1), pair(last, 2)},
		{pair(1, 1), pair(2, 1), pair(2, 3), pair(4, 1)},
		{pair(1, 1), pair(3, 1), pair(2, 1)},
		{pair(1, 1), pair(3, 1), pair(2, 1), pair(4, 1)},
		{void(1, 0)},
		{void(0, 0)},
		{void(1, 7)},
		{void(last, last)},
		{void(0, 1), pair(1, 1)},
		{pair(0, 1), void(1, 0), pair(2, 1)},
		{pair(0, 1), pair(1, 1), void(2, 9)},
		{void(2, 0), void(1, 0)},
	}
}

// canonBits: the bits of a float, of a NaN of the one that is told.
func canonBits(b uint64) uint64 {
	if b<<1 > 2047<<53 {
		return api.QuietNaN
	}
	return b
}

// place: where a float stands in the row, by its bits alone.
func place(b uint64) int64 {
	switch {
	case b == api.QuietNaN:
		return math.MaxInt64
	case b >= 1<<63:
		return math.MinInt64 - int64(b) - 1
	}
	return int64(b)
}

// fitted: chapter 4's Fit of something.
func fitted(kind int, b uint64) uint64 {
	if kind == api.AggLeast || kind == api.AggMost {
		return canonBits(b)
	}
	return b
}

// merged: chapter 4's Merge of two that are something.
func merged(kind int, a uint64, b uint64) uint64 {
	a, b = fitted(kind, a), fitted(kind, b)
	switch {
	case kind == api.AggCount || kind == api.AggSum:
		return a + b
	case (place(a) < place(b)) == (kind == api.AggLeast):
		return a
	}
	return b
}

// gather: what P5.3 says, of pairs in any order and with any keys twice: the same keys are brought side by side.
func gather(kind int, pairs []api.Pair) []api.Pair {
	pairs = slices.Clone(pairs)
	slices.SortStableFunc(pairs, func(a api.Pair, b api.Pair) int {
		if a.Key < b.Key {
			return -1
		}
		if a.Key > b.Key {
			return 1
		}
		return 0
	})
	var table []api.Pair
	for _, p := range pairs {
		at := len(table) - 1
		if at >= 0 && table[at].Key == p.Key {
			table[at] = pair(p.Key, merged(kind, table[at].Val.Bits, p.Val.Bits))
		} else {
			table = append(table, pair(p.Key, fitted(kind, p.Val.Bits)))
		}
	}
	return table
}

// one: the bits of the value of one record (P4.2), by the language's own cut of a float.
func one(kind int, x float64) uint64 {
	switch {
	case kind == api.AggCount:
		return 1
	case kind >= api.AggLeast:
		return canonBits(bits(x))
	case x != x:
		return 0
	case x >= 0x1p63:
		return math.MaxInt64
	case x < -0x1p63:
		return 1 << 63
	}
	return uint64(int64(x))
}

// batch: what P5.2 says, of a pipeline and a kind.
func batch(list []api.Op, kind int, recs []api.Record) ([]api.Pair, int) {
	var pairs []api.Pair
	trapped := 0
	for _, r := range recs {
		got, fate := ops.Run(list, r)
		if fate == api.Kept {
			pairs = append(pairs, pair(got.Key, one(kind, got.Val)))
		}
		if fate == api.Trapped {
			trapped++
		}
	}
	return gather(kind, pairs), trapped
}

// orders: every order of a list.
func orders(recs []api.Record) [][]api.Record {
	if len(recs) == 0 {
		return [][]api.Record{nil}
	}
	var all [][]api.Record
	for _, short := range orders(recs[1:]) {
		for at := range len(short) + 1 {
			all = append(all, slices.Insert(slices.Clone(short), at, recs[0]))
		}
	}
	return all
}

// junk is what stands in spare room.
func junk() api.Pair { return pair(0xdead, 0xbeef) }

// roomy: a list with the same elements and with spare room that holds something.
func roomy[E any](list []E, spare E) []E {
	all := append(slices.Clone(list), slices.Repeat([]E{spare}, 5)...)
	return all[:len(list)]
}

// spoil writes over a list and over its spare room.
func spoil[E any](list []E, with E) {
	list = list[:cap(list)]
	for i := range list {
		list[i] = with
	}
}

func wantSound(t *testing.T, table []api.Pair, want bool) {
	t.Helper()
	if got := Sound(table); got != want {
		t.Errorf("Sound(%v) is %t", table, got)
	}
}

func wantBatch(t *testing.T, list []api.Op, kind int, recs []api.Record, want []api.Pair, trapped int) {
	t.Helper()
	p, n, e := Batch(list, kind, recs)
	if !slices.Equal(p, want) || n != trapped || e != api.OK {
		t.Errorf("Batch(%v, %d, %v) is %v, %d, %d, not %v, %d", list, kind, recs, p, n, e, want, trapped)
	}
}

func wantNoBatch(t *testing.T, list []api.Op, kind int, recs []api.Record, want api.Errno) {
	t.Helper()
	if p, n, e := Batch(list, kind, recs); len(p) != 0 || n != 0 || e != want {
		t.Errorf("Batch(%v, %d, %v) is %v, %d, %d, not the error %d", list, kind, recs, p, n, e, want)
	}
}

// wantAdd holds Add to what is asked, with both parts turned about too.
func wantAdd(t *testing.T, kind int, a []api.Pair, b []api.Pair, want []api.Pair) {
	t.Helper()
	if p, e := Add(kind, a, b); !slices.Equal(p, want) || e != api.OK {
		t.Errorf("Add(%d, %v, %v) is %v, %d, not %v", kind, a, b, p, e, want)
	}
	if p, e := Add(kind, b, a); !slices.Equal(p, want) || e != api.OK {
		t.Errorf("Add(%d, %v, %v) is %v, %d, not %v", kind, b, a, p, e, want)
	}
}

func wantNoAdd(t *testing.T, kind int, a []api.Pair, b []api.Pair, want api.Errno) {
	t.Helper()
	if p, e := Add(kind, a, b); len(p) != 0 || e != want {
		t.Errorf("Add(%d, %v, %v) is %v, %d, not the error %d", kind, a, b, p, e, want)
	}
	if p, e := Add(kind, b, a); len(p) != 0 || e != want {
		t.Errorf("Add(%d, %v, %v) is %v, %d, not the error %d", kind, b, a, p, e, want)
	}
}

func wantFind(t *testing.T, table []api.Pair, key uint64, want api.Value) {
	t.Helper()
	if v := Find(table, key); v != want {
		t.Errorf("Find(%v, %d) is %v, not %v", table, key, v, want)
	}
}

func wantKeys(t *testing.T, table []api.Pair, want []uint64) {
	t.Helper()
	if keys := Keys(table); !slices.Equal(keys, want) {
		t.Errorf("Keys(%v) is %v, not %v", table, keys, want)
	}
}
