package fbit

import (
	"math"
	"math/big"
	"testing"

	"reprise/api"
)

var (
	minusNought = math.Copysign(0, -1)
	plusInf     = math.Inf(1)
	minusInf    = math.Inf(-1)
)

const (
	smallest   = 5e-324
	mostSmall  = 0x0.fffffffffffffp-1022
	leastNorm  = 0x1p-1022
	belowWhole = 0x1p63 - 1024
)

func float(bits uint64) float64 { return math.Float64frombits(bits) }

func same(a float64, b float64) bool { return math.Float64bits(a) == math.Float64bits(b) }

// nans has quiet ones and signalling ones, of both signs, the one that is told among them.
func nans() []float64 {
	return []float64{
		float(api.QuietNaN),
		float(0x7ff8000000000000),
		float(0x7ff0000000000001),
		float(0x7fffffffffffffff),
		float(0x7ff4000000000000),
		float(0xfff8000000000001),
		float(0xfff0000000000001),
		float(0xffffffffffffffff),
		float(0xfff0000000000009),
	}
}

// row has numbers in the order of the row, from its beginning to +infinity.
func row() []float64 {
	return []float64{
		minusInf, -math.MaxFloat64, -1e300, math.Nextafter(-0x1p63, minusInf), -0x1p63, -belowWhole,
		-0x1p53 - 2, -0x1p53, -0x1p51 - 0.5, -2.9, -2.5, -2, -1.5, -1 - 0x1p-52, -1, -1 + 0x1p-53, -0.5,
		-leastNorm - smallest, -leastNorm, -mostSmall, -2 * smallest, -smallest, minusNought,
		0, smallest, 2 * smallest, mostSmall, leastNorm, leastNorm + smallest,
		0.5, 1 - 0x1p-53, 1, 1 + 0x1p-52, 1.5, 2, 2.5, 2.9, 0x1p51 + 0.5, 0x1p53, 0x1p53 + 2, 0x1p60 + 256,
		belowWhole, 0x1p63, math.Nextafter(0x1p63, plusInf), 1e300, math.MaxFloat64, plusInf,
	}
}

// scattered has floats of all classes, always the same ones.
func scattered(count int) []float64 {
	list := make([]float64, 0, count)
	state := uint64(1)
	next := func() uint64 {
		state = state*6364136223846793005 + 1442695040888963407
		return state ^ state>>29
	}
	for len(list) < count {
		bits := next()
		switch len(list) % 4 {
		case 1:
			bits &^= 2047 << 52
		case 2:
			bits = bits&^(2047<<52) | (1023-3+next()>>32%70)<<52
		case 3:
			bits &= ^uint64(0) << (next() >> 32 % 53)
		}
		list = append(list, float(bits))
	}
	return list
}

// all has everything at which the calls are tried.
func all() []float64 { return append(append(row(), nans()...), scattered(2000)...) }

func wantFloat(t *testing.T, got float64, want float64, call string, args ...any) {
	t.Helper()
	if !same(got, want) {
		t.Errorf("%s%v is %v (%x), not %v (%x)", call, args, got, math.Float64bits(got), want, math.Float64bits(want))
	}
}

func wantTold(t *testing.T, got float64, call string, args ...any) {
	t.Helper()
	wantFloat(t, got, float(api.QuietNaN), call, args...)
}

// exact: a finite float as a number that is reckoned with without rounding.
func exact(x float64) *big.Float { return new(big.Float).SetPrec(2200).SetFloat64(x) }

func finite(x float64) bool { return !math.IsNaN(x) && !math.IsInf(x, 0) }

func plain(x float64) bool { return finite(x) && x != 0 }
