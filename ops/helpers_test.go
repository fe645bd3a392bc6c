package ops

import (
	"math"
	"slices"
	"testing"

	"reprise/api"
)

var (
	minusNought = math.Copysign(0, -1)
	plusInf     = math.Inf(1)
	minusInf    = math.Inf(-1)
	told        = math.Float64frombits(api.QuietNaN)
)

const smallest = 5e-324

func float(bits uint64) float64 { return math.Float64frombits(bits) }

// nans has quiet ones and signalling ones, of both signs, the one that is told among them.
func nans() []float64 {
	return []float64{
		told, float(0x7ff8000000000000), float(0x7ff0000000000001), float(0x7fffffffffffffff), float(0x7ff4000000000000),
		float(0xfff8000000000001), float(0xfff0000000000001), float(0xffffffffffffffff), float(0xfff8000000000000),
	}
}

// numbers has floats that are no NaNs, in the order of the row.
func numbers() []float64 {
	return []float64{
		minusInf, -math.MaxFloat64, -1e300, -0x1p63, -0x1p53 - 2, -7, -3, -2.9, -2, -1.5, -1, -0.5, -0x1p-1022, -smallest,
		minusNought, 0, smallest, 0x1p-1022, 0.5, 1, 1.5, 2, 2.9, 3, 7, 0x1p53 + 2, 0x1p63, 1e300, math.MaxFloat64, plusInf,
	}
}

func values() []float64 { return append(numbers(), nans()...) }

// wholes has numbers of 64 bits at the ends and at the limits, and beside them.
func wholes() []int64 {
	return []int64{
		math.MinInt64, math.MinInt64 + 1, -1 << 53, -2201, -2200, -2199, -8, -7, -1, 0,
		1, 2, 3, 7, 2199, 2200, 2201, 1 << 32, 1<<53 + 1, math.MaxInt64 - 1, math.MaxInt64,
	}
}

func keys() []uint64 {
	return []uint64{
		0, 1, 2, 3, 5, 8, 1<<32 + 1, 1<<62 - 1, 1 << 62, 1<<62 + 5, 1<<63 - 1, 1 << 63, 1<<63 + 1, math.MaxUint64 - 1, math.MaxUint64,
	}
}

// steps has one or more of each kind.
func steps() []api.Op {
	return []api.Op{
		{Kind: api.OpLess, X: 2}, {Kind: api.OpLess, X: minusNought}, {Kind: api.OpMore, X: -1}, {Kind: api.OpMore, X: float(0xfff0000000000001)},
		{Kind: api.OpReal}, {Kind: api.OpNeg}, {Kind: api.OpAbs}, {Kind: api.OpFloor},
		{Kind: api.OpScale, N: 3}, {Kind: api.OpScale, N: -2200}, {Kind: api.OpScale, N: 2200}, {Kind: api.OpInverse}, {Kind: api.OpNeed},
		{Kind: api.OpPer, N: 7}, {Kind: api.OpPer, N: 0}, {Kind: api.OpPer, N: math.MinInt64},
		{Kind: api.OpRegroup, N: 1}, {Kind: api.OpRegroup, N: 3}, {Kind: api.OpRegroup, N: math.MaxInt64}, {Kind: api.OpSide},
	}
}

// noSteps has what is none, by its kind or by its N.
func noSteps() []api.Op {
	return []api.Op{
		{}, {Kind: 13}, {Kind: 14}, {Kind: -1}, {Kind: -12}, {Kind: math.MaxInt}, {Kind: math.MinInt}, {Kind: 256 + 4}, {Kind: 1<<32 + 4},
		{Kind: api.OpScale, N: 2201}, {Kind: api.OpScale, N: -2201}, {Kind: api.OpScale, N: math.MaxInt64}, {Kind: api.OpScale, N: math.MinInt64},
		{Kind: api.OpScale, N: 1 << 32}, {Kind: api.OpRegroup}, {Kind: api.OpRegroup, N: -1}, {Kind: api.OpRegroup, N: math.MinInt64},
	}
}

func same(a api.Record, b api.Record) bool {
	return a.Key == b.Key && math.Float64bits(a.Val) == math.Float64bits(b.Val)
}

func canon(x float64) float64 {
	if math.IsNaN(x) {
		return told
	}
	return x
}

func neg(count int) []api.Op { return slices.Repeat([]api.Op{{Kind: api.OpNeg}}, count) }

func wantOne(t *testing.T, o api.Op, r api.Record, want api.Record, fate int) {
	t.Helper()
	got, f := One(o, r)
	if !same(got, want) || f != fate {
		t.Errorf("One(%v, %v) is %v (%x), %d, not %v, %d", o, r, got, math.Float64bits(got.Val), f, want, fate)
	}
}

func wantVal(t *testing.T, o api.Op, x float64, want float64) {
	t.Helper()
	wantOne(t, o, api.Record{Key: 1<<63 + 9, Val: x}, api.Record{Key: 1<<63 + 9, Val: want}, api.Kept)
}

func wantKept(t *testing.T, o api.Op, x float64) {
	t.Helper()
	wantVal(t, o, x, canon(x))
}

func wantGone(t *testing.T, o api.Op, x float64, fate int) {
	t.Helper()
	wantOne(t, o, api.Record{Key: 1<<63 + 9, Val: x}, api.Record{}, fate)
}

// wantRun holds Run to what is asked, and Key to it.
func wantRun(t *testing.T, list []api.Op, r api.Record, want api.Record, fate int) {
	t.Helper()
	got, f := Run(list, r)
	if !same(got, want) || f != fate {
		t.Errorf("Run(%v, %v) is %v, %d, not %v, %d", list, r, got, f, want, fate)
	}
	key, ok := Key(list, r)
	if key != want.Key || ok != (fate == api.Kept) {
		t.Errorf("Key(%v, %v) is %d, %t, not %d, %t", list, r, key, ok, want.Key, fate == api.Kept)
	}
}

func wantCheck(t *testing.T, list []api.Op, want api.Errno) {
	t.Helper()
	if e := Check(list); e != want {
		t.Errorf("Check(%v) is %d, not %d", list, e, want)
	}
}
