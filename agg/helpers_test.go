package agg

import (
	"math"
	"slices"
	"testing"

	"reprise/api"
)

var (
	minusNought = math.Copysign(0, -1)
	plusInf     = math.Inf(1)
	minusInf    = math.Inf(-1)
	told        = math.Float64frombits(api.QuietNaN)
	nothing     = api.Value{}
)

const smallest = 5e-324

func val(bits uint64) api.Value { return api.Value{Has: true, Bits: bits} }

// void: nothing, with bits that mean nothing.
func void(bits uint64) api.Value { return api.Value{Bits: bits} }

func float(bits uint64) float64 { return math.Float64frombits(bits) }

func bits(x float64) uint64 { return math.Float64bits(x) }

// minus: the bits of a number below 0 by its size.
func minus(size uint64) uint64 { return -size }

func kinds() []int { return []int{1, 2, 3, 4} }

// noKinds has numbers beside the kinds, the ends of int, and what would be a kind if it were cut.
func noKinds() []int {
	return []int{0, 5, 6, -1, -2, -3, -4, -5, math.MinInt, math.MinInt + 1, math.MaxInt, 256 + 1, 1<<16 + 2, 1<<32 + 3, 1<<62 + 4}
}

// nans has quiet ones and signalling ones, of both signs: each bit of the fraction alone, and some together.
func nans() []float64 {
	list := []float64{told, float(0x7ff8000000000000), float(0x7fffffffffffffff), float(0xfff8000000000001), float(0xffffffffffffffff)}
	for bit := range 52 {
		list = append(list, float(2047<<52|1<<bit), float(1<<63|2047<<52|1<<bit))
	}
	return list
}

// numbers has floats that are no NaNs, in the order of the row.
func numbers() []float64 {
	return []float64{
		minusInf, -math.MaxFloat64, -1e300, -0x1.0000000000001p63, -0x1p63, -0x1.fffffffffffffp62, -0x1p53, -7, -2.9, -1, -0.5, -0x1p-1022, -smallest,
		minusNought, 0, smallest, 0x1p-1022, 0.5, 1, 2.9, 7, 0x1p53, 0x1.fffffffffffffp62, 0x1p63, 0x1.0000000000001p63, 1e300, math.MaxFloat64, plusInf,
	}
}

func floats() []float64 { return append(numbers(), nans()...) }

// words has numbers of 64 bits at the ends and at the limits, and beside them.
func words() []uint64 {
	return []uint64{
		0, 1, 2, 9, 10, 1<<32 - 1, 1 << 32, 1<<63 - 2, 1<<63 - 1, 1 << 63, 1<<63 + 1, 1<<64 - 2, 1<<64 - 1,
		0x7fefffffffffffff, 0x7ff0000000000000, 0x7ff0000000000001, api.QuietNaN, 0xfff0000000000000, 0xfff0000000000001, 0xfff8000000000001,
	}
}

// anyValues has values of all kinds, fit and not, and nothing with and without bits.
func anyValues() []api.Value {
	var list []api.Value
	for _, w := range words() {
		list = append(list, val(w), void(w))
	}
	return list
}

// place: where a float stands in the row, by its bits alone.
func place(x float64) int64 {
	b := int64(bits(x))
	switch {
	case x != x:
		return math.MaxInt64
	case b < 0:
		return math.MinInt64 - b - 1
	}
	return b
}

// canonBits: the bits of x, of a NaN of the one that is told.
func canonBits(b uint64) uint64 {
	if b<<1 > 2047<<53 {
		return api.QuietNaN
	}
	return b
}

// fitted: what P4.3 says, of one of the kinds.
func fitted(kind int, v api.Value) api.Value {
	switch {
	case !v.Has:
		return nothing
	case kind <= 2:
		return v
	}
	return val(canonBits(v.Bits))
}

// merged: what P4.4 says, of one of the kinds.
func merged(kind int, a api.Value, b api.Value) api.Value {
	a, b = fitted(kind, a), fitted(kind, b)
	ahead := place(float(a.Bits)) < place(float(b.Bits))
	switch {
	case !a.Has:
		return b
	case !b.Has:
		return a
	case kind <= 2:
		return val(a.Bits + b.Bits)
	case ahead == (kind == 3):
		return a
	}
	return b
}

// orders: every order of the numbers below count.
func orders(count int) [][]int {
	if count == 0 {
		return [][]int{nil}
	}
	var all [][]int
	for _, short := range orders(count - 1) {
		for at := range count {
			all = append(all, slices.Insert(slices.Clone(short), at, count-1))
		}
	}
	return all
}

// groupings: what Merge makes of a list in its order, with every way to set brackets.
func groupings(kind int, list []api.Value) []api.Value {
	if len(list) == 1 {
		return list
	}
	var all []api.Value
	for cut := 1; cut < len(list); cut++ {
		for _, a := range groupings(kind, list[:cut]) {
			for _, b := range groupings(kind, list[cut:]) {
				all = append(all, Merge(kind, a, b))
			}
		}
	}
	return all
}

func wantOf(t *testing.T, kind int, x float64, want api.Value) {
	t.Helper()
	if v := Of(kind, x); v != want {
		t.Errorf("Of(%d, %v (%x)) is %v, not %v", kind, x, bits(x), v, want)
	}
}

func wantFit(t *testing.T, kind int, v api.Value, want api.Value) {
	t.Helper()
	if got := Fit(kind, v); got != want {
		t.Errorf("Fit(%d, %v) is %v, not %v", kind, v, got, want)
	}
}

// wantMerge holds Merge to what is asked, with both parts turned about too.
func wantMerge(t *testing.T, kind int, a api.Value, b api.Value, want api.Value) {
	t.Helper()
	if v := Merge(kind, a, b); v != want {
		t.Errorf("Merge(%d, %v, %v) is %v, not %v", kind, a, b, v, want)
	}
	if v := Merge(kind, b, a); v != want {
		t.Errorf("Merge(%d, %v, %v) is %v, not %v", kind, b, a, v, want)
	}
}

func wantText(t *testing.T, kind int, v api.Value, want string) {
	t.Helper()
	if s := Text(kind, v); s != want {
		t.Errorf("Text(%d, %v) is %q, not %q", kind, v, s, want)
	}
}
