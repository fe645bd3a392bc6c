package cell

import (
	"math"
	"slices"
	"testing"

	"reprise/api"
)

// top is the greatest batch of a fit cell.
const top = 1 << 40

var nothing = api.Value{}

func val(bits uint64) api.Value { return api.Value{Has: true, Bits: bits} }

// void: nothing, with bits that mean nothing.
func void(bits uint64) api.Value { return api.Value{Bits: bits} }

func float(x float64) api.Value { return val(math.Float64bits(x)) }

// count: a cell of a key with counts, in which 0 stands for nothing.
func count(prev uint64, cur uint64, batch int) api.Cell {
	return api.Cell{Key: 7, Prev: counted(prev), Cur: counted(cur), Batch: batch}
}

func counted(n uint64) api.Value { return api.Value{Has: n != 0, Bits: n} }

func kinds() []int { return []int{1, 2, 3, 4} }

// noKinds has numbers beside the kinds, the ends of int, and what would be a kind if it were cut.
func noKinds() []int {
	return []int{0, 5, 6, -1, -2, -3, -4, -5, 256 + 1, 1<<16 + 2, 1<<32 + 3, 1<<62 + 4, math.MinInt, math.MinInt + 1, math.MaxInt}
}

// noBatches has numbers that no batch has, what would be one if it were cut among them.
func noBatches() []int {
	return []int{0, -1, -2, -4, -top, -top - 1, math.MinInt, math.MinInt + 1, math.MinInt + 4}
}

// batches has numbers of batches, those behind the greatest of a fit cell among them.
func batches() []int {
	return []int{1, 2, 3, 4, 5, 255, 256, 257, 1 << 16, 1<<31 - 1, 1 << 31, 1 << 32, 1<<32 + 1, top - 1, top, top + 1, top + 2, math.MaxInt - 1, math.MaxInt}
}

func allBatches() []int { return append(noBatches(), batches()...) }

func keys() []uint64 { return []uint64{0, 1, 7, 1 << 32, 1<<63 - 1, 1 << 63, 1<<64 - 1} }

// nans has bits of NaNs that aren't the one that is told.
func nans() []uint64 {
	return []uint64{0x7ff0000000000001, 0x7ff8000000000000, 0x7ff8000000000002, 0x7fffffffffffffff, 0xfff0000000000001, 0xfff8000000000001, 0xffffffffffffffff}
}

// words has numbers of 64 bits at the ends, and the bits of floats of all classes.
func words() []uint64 {
	list := []uint64{
		0, 1, 2, 5, 1<<32 - 1, 1 << 32, 1<<63 - 1, 1 << 63, 1<<63 + 1, 1<<64 - 2,
		0x3ff0000000000000, 0xbff0000000000000, 0x7fefffffffffffff, 0x7ff0000000000000, 0xffefffffffffffff, 0xfff0000000000000, api.QuietNaN,
	}
	return append(list, nans()...)
}

// anyValues has values of all kinds, fit and not, and nothing with and without bits.
func anyValues() []api.Value {
	var list []api.Value
	for _, w := range words() {
		list = append(list, val(w), void(w))
	}
	return list
}

// someValues has a few of anyValues, one of each sort.
func someValues() []api.Value {
	return []api.Value{
		nothing, void(9), void(0xfff8000000000001), val(0), val(3), val(1 << 63), val(1<<64 - 1), val(0xfff0000000000001), val(api.QuietNaN), float(-1.5),
	}
}

// anyCells has cells with each two of these values, of one batch.
func anyCells(values []api.Value, batch int) []api.Cell {
	var list []api.Cell
	for i, prev := range values {
		for j, cur := range values {
			list = append(list, api.Cell{Key: keys()[(i+j)%len(keys())], Prev: prev, Cur: cur, Batch: batch})
		}
	}
	return list
}

// place: where a float stands in the row, by its bits alone.
func place(bits uint64) int64 {
	switch {
	case isNaN(bits):
		return math.MaxInt64
	case bits>>63 == 1:
		return math.MinInt64 - int64(bits) - 1
	}
	return int64(bits)
}

func isNaN(bits uint64) bool { return bits<<1 > 2047<<53 }

// fitValueOf: whether chapter 4 calls a value fit, of one of the kinds.
func fitValueOf(kind int, v api.Value) bool {
	if !v.Has {
		return v.Bits == 0
	}
	return kind <= 2 || !isNaN(v.Bits) || v.Bits == api.QuietNaN
}

// fitted: what chapter 4 makes of a value, of one of the kinds.
func fitted(kind int, v api.Value) api.Value {
	switch {
	case fitValueOf(kind, v):
		return v
	case !v.Has:
		return nothing
	}
	return val(api.QuietNaN)
}

// merged: what chapter 4 makes of two values, of one of the kinds.
func merged(kind int, a api.Value, b api.Value) api.Value {
	a, b = fitted(kind, a), fitted(kind, b)
	switch {
	case !a.Has:
		return b
	case !b.Has:
		return a
	case kind <= 2:
		return val(a.Bits + b.Bits)
	case (place(a.Bits) < place(b.Bits)) == (kind == 3):
		return a
	}
	return b
}

// applied: what P10.1 says, each of its two ways written out by itself.
func applied(kind int, c api.Cell, batch int, part api.Value) (api.Cell, api.Errno) {
	switch {
	case !slices.Contains(kinds(), kind) || batch <= 0:
		return api.Cell{}, api.ErrArg
	case batch < c.Batch:
		return api.Cell{}, api.ErrBatch
	case batch == c.Batch:
		return api.Cell{Key: c.Key, Prev: c.Prev, Cur: merged(kind, c.Prev, part), Batch: c.Batch}, api.OK
	}
	return api.Cell{Key: c.Key, Prev: c.Cur, Cur: merged(kind, c.Cur, part), Batch: batch}, api.OK
}

func wantApply(t *testing.T, kind int, c api.Cell, batch int, part api.Value, want api.Cell, code api.Errno) {
	t.Helper()
	was, wasPart := c, part
	got, e := Apply(kind, c, batch, part)
	if got != want || e != code {
		t.Errorf("Apply(%d, %v, %d, %v) is %v, %d, not %v, %d", kind, was, batch, wasPart, got, e, want, code)
	}
	if c != was || part != wasPart {
		t.Errorf("Apply(%d, %v, %d, %v) has changed what was handed in", kind, was, batch, wasPart)
	}
	if again, e := Apply(kind, c, batch, part); again != got || e != code {
		t.Errorf("Apply(%d, %v, %d, %v) is another one the second time: %v, %d", kind, was, batch, wasPart, again, e)
	}
}

// wantApplied holds Apply to P10.1 as the test's own functions say it.
func wantApplied(t *testing.T, kind int, c api.Cell, batch int, part api.Value) {
	t.Helper()
	want, code := applied(kind, c, batch, part)
	wantApply(t, kind, c, batch, part, want, code)
}

func wantRevert(t *testing.T, c api.Cell, batch int, want api.Cell) {
	t.Helper()
	was := c
	if got := Revert(c, batch); got != want {
		t.Errorf("Revert(%v, %d) is %v, not %v", was, batch, got, want)
	}
	if c != was {
		t.Errorf("Revert(%v, %d) has changed what was handed in", was, batch)
	}
}

func wantResolve(t *testing.T, c api.Cell, committed int, want api.Value) {
	t.Helper()
	was := c
	if got := Resolve(c, committed); got != want {
		t.Errorf("Resolve(%v, %d) is %v, not %v", was, committed, got, want)
	}
	if c != was {
		t.Errorf("Resolve(%v, %d) has changed what was handed in", was, committed)
	}
}

func wantEmpty(t *testing.T, c api.Cell, want bool) {
	t.Helper()
	if got := Empty(c); got != want {
		t.Errorf("Empty(%v) is %t", c, got)
	}
}

func wantFit(t *testing.T, kind int, c api.Cell, want bool) {
	t.Helper()
	if got := Fit(kind, c); got != want {
		t.Errorf("Fit(%d, %v) is %t", kind, c, got)
	}
}

// must: a cell behind Apply, which has to go well.
func must(t *testing.T, kind int, c api.Cell, batch int, part api.Value) api.Cell {
	t.Helper()
	got, e := Apply(kind, c, batch, part)
	if e != api.OK {
		t.Fatalf("Apply(%d, %v, %d, %v) is %d", kind, c, batch, part, e)
	}
	return got
}
