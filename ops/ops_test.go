package ops

import (
	"math"
	"math/big"
	"slices"
	"testing"

	"reprise/api"
)

// The four examples.

func TestExampleInverse(t *testing.T) {
	wantRun(t, []api.Op{{Kind: api.OpNeg}, {Kind: api.OpInverse}}, api.Record{Key: 3}, api.Record{Key: 3, Val: minusInf}, api.Kept)
	wantRun(t, []api.Op{{Kind: api.OpInverse}, {Kind: api.OpNeed}}, api.Record{Key: 3, Val: minusNought}, api.Record{}, api.Trapped)
}

func TestExamplePer(t *testing.T) {
	list := []api.Op{{Kind: api.OpPer, N: 7}}
	wantRun(t, list, api.Record{Key: 1, Val: 2.9}, api.Record{Key: 1, Val: 3}, api.Kept)
	for _, x := range []float64{0.5, math.NaN(), minusNought} {
		wantRun(t, list, api.Record{Key: 1, Val: x}, api.Record{}, api.Trapped)
	}
	least := []api.Op{{Kind: api.OpPer, N: math.MinInt64}}
	wantRun(t, least, api.Record{Key: 1, Val: -1}, api.Record{Key: 1, Val: -9223372036854775808}, api.Kept)
}

func TestExampleKeys(t *testing.T) {
	list := []api.Op{{Kind: api.OpLess, X: 2}, {Kind: api.OpRegroup, N: 3}}
	wantRun(t, list, api.Record{Key: 8, Val: 1}, api.Record{Key: 2, Val: 1}, api.Kept)
	wantRun(t, list, api.Record{Key: 8, Val: 2}, api.Record{}, api.Dropped)
	wantRun(t, list, api.Record{Key: 8, Val: math.NaN()}, api.Record{}, api.Dropped)
	side := []api.Op{{Kind: api.OpSide}}
	wantRun(t, side, api.Record{Key: 5, Val: minusNought}, api.Record{Key: 21, Val: minusNought}, api.Kept)
	wantRun(t, side, api.Record{Key: 5, Val: -3}, api.Record{Key: 20, Val: -3}, api.Kept)
	wantRun(t, side, api.Record{Key: 1<<62 + 5, Val: math.NaN()}, api.Record{Key: 23, Val: told}, api.Kept)
}

func TestExampleNoPipelines(t *testing.T) {
	for _, list := range [][]api.Op{{{Kind: api.OpRegroup}}, {{Kind: 13}}, {{Kind: api.OpScale, N: 2201}}, neg(9)} {
		wantCheck(t, list, api.ErrOps)
		wantRun(t, list, api.Record{Key: 4, Val: 1}, api.Record{}, 0)
	}
}

// P3.1

func TestCheckOfEachKind(t *testing.T) {
	for kind := -3; kind <= 20; kind++ {
		want := api.ErrOps
		if 1 <= kind && kind <= 12 {
			want = api.OK
		}
		wantCheck(t, []api.Op{{Kind: kind, N: 1}}, want)
	}
	for _, o := range steps() {
		wantCheck(t, []api.Op{o}, api.OK)
	}
	for _, o := range noSteps() {
		wantCheck(t, []api.Op{o}, api.ErrOps)
	}
}

func TestCheckOfEachN(t *testing.T) {
	for _, n := range wholes() {
		for kind := api.OpLess; kind <= api.OpSide; kind++ {
			bad := kind == api.OpScale && (n < -2200 || n > 2200) || kind == api.OpRegroup && n < 1
			want := api.OK
			if bad {
				want = api.ErrOps
			}
			wantCheck(t, []api.Op{{Kind: kind, N: n}}, want)
		}
	}
}

func TestCheckLooksAtNoX(t *testing.T) {
	for kind := api.OpLess; kind <= api.OpSide; kind++ {
		for _, x := range values() {
			wantCheck(t, []api.Op{{Kind: kind, N: 1, X: x}}, api.OK)
		}
	}
}

func TestCheckOfLengths(t *testing.T) {
	wantCheck(t, nil, api.OK)
	wantCheck(t, []api.Op{}, api.OK)
	for count := range 20 {
		want := api.OK
		if count > 8 {
			want = api.ErrOps
		}
		wantCheck(t, neg(count), want)
	}
	// Room behind a list is none of its steps.
	wantCheck(t, neg(20)[:8], api.OK)
}

func TestCheckOfEachPlace(t *testing.T) {
	for _, bad := range noSteps() {
		for at := range 8 {
			list := neg(8)
			list[at] = bad
			wantCheck(t, list, api.ErrOps)
			wantRun(t, list, api.Record{Key: 2, Val: 2}, api.Record{}, 0)
		}
	}
}

// P3.2

func TestOneOfNoStep(t *testing.T) {
	for _, o := range noSteps() {
		for _, x := range values() {
			wantGone(t, o, x, 0)
		}
	}
}

func TestLessAndMore(t *testing.T) {
	row := numbers()
	for i, x := range row {
		for j, limit := range row {
			// Both noughts are equal: neither is less.
			less := i < j && !(x == 0 && limit == 0)
			more := i > j && !(x == 0 && limit == 0)
			wantKeptIf(t, api.Op{Kind: api.OpLess, X: limit}, x, less)
			wantKeptIf(t, api.Op{Kind: api.OpMore, X: limit}, x, more)
		}
	}
	for _, nan := range nans() {
		for _, x := range values() {
			for _, kind := range []int{api.OpLess, api.OpMore} {
				wantKeptIf(t, api.Op{Kind: kind, X: nan}, x, false)
				wantKeptIf(t, api.Op{Kind: kind, X: x}, nan, false)
			}
		}
	}
}

func wantKeptIf(t *testing.T, o api.Op, x float64, keeps bool) {
	t.Helper()
	if keeps {
		wantKept(t, o, x)
	} else {
		wantGone(t, o, x, api.Dropped)
	}
}

func TestReal(t *testing.T) {
	for _, x := range numbers() {
		wantKept(t, api.Op{Kind: api.OpReal}, x)
	}
	for _, x := range nans() {
		wantGone(t, api.Op{Kind: api.OpReal}, x, api.Dropped)
	}
}

func TestNegAndAbs(t *testing.T) {
	for _, x := range numbers() {
		bits := math.Float64bits(x)
		wantVal(t, api.Op{Kind: api.OpNeg}, x, float(bits^1<<63))
		wantVal(t, api.Op{Kind: api.OpAbs}, x, float(bits&^(1<<63)))
	}
}

func TestFloor(t *testing.T) {
	floor := api.Op{Kind: api.OpFloor}
	for x, want := range map[float64]float64{
		-2.9: -3, -2: -2, -0.5: -1, -smallest: -1, 0.5: 0, smallest: 0, 2.9: 2, 1e300: 1e300, plusInf: plusInf, minusInf: minusInf,
	} {
		wantVal(t, floor, x, want)
	}
	wantVal(t, floor, 0, 0)
	wantVal(t, floor, minusNought, minusNought)
}

func TestScale(t *testing.T) {
	scale := func(x float64, n int64, want float64) {
		t.Helper()
		wantVal(t, api.Op{Kind: api.OpScale, N: n}, x, want)
	}
	scale(3, 2, 12)
	scale(3, 0, 3)
	scale(1, -1074, smallest)
	scale(3, -1075, 1e-323)
	scale(-1, -1075, minusNought)
	scale(-1, 1024, minusInf)
	scale(smallest, 2098-1, 0x1p1023)
	scale(smallest, 2098, plusInf)
	for _, n := range []int64{-2200, 2200} {
		for _, x := range []float64{minusInf, minusNought, 0, plusInf} {
			scale(x, n, x)
		}
	}
	scale(-smallest, 2200, minusInf)
	scale(-math.MaxFloat64, -2200, minusNought)
}

func TestInverse(t *testing.T) {
	inverse := api.Op{Kind: api.OpInverse}
	wantVal(t, inverse, 0, plusInf)
	wantVal(t, inverse, minusNought, minusInf)
	wantVal(t, inverse, plusInf, 0)
	wantVal(t, inverse, minusInf, minusNought)
	wantVal(t, inverse, 4, 0.25)
	wantVal(t, inverse, smallest, plusInf)
	for _, x := range numbers() {
		if x == 0 || math.IsInf(x, 0) {
			continue
		}
		// A quotient of whole numbers has no rounding ahead of the one by Float64.
		exact, _ := new(big.Rat).Inv(new(big.Rat).SetFloat64(x)).Float64()
		wantVal(t, inverse, x, exact)
	}
}

func TestNeed(t *testing.T) {
	need := api.Op{Kind: api.OpNeed}
	for _, x := range numbers() {
		if math.IsInf(x, 0) {
			wantGone(t, need, x, api.Trapped)
		} else {
			wantKept(t, need, x)
		}
	}
	for _, x := range nans() {
		wantGone(t, need, x, api.Trapped)
	}
}

func TestPer(t *testing.T) {
	per := func(n int64, x float64, want float64) {
		t.Helper()
		wantVal(t, api.Op{Kind: api.OpPer, N: n}, x, want)
	}
	per(7, 2, 3)
	per(-7, 2, -3)
	per(7, -2.9, -3)
	per(-7, -2, 3)
	per(1, 2, 0)
	per(-1, 2, 0)
	per(0, -3, 0)
	per(math.MinInt64, -1, -0x1p63)
	per(math.MinInt64, -1.9, -0x1p63)
	per(math.MinInt64, minusInf, 1)
	per(math.MaxInt64, plusInf, 1)
	per(math.MinInt64, plusInf, -1)
	per(math.MaxInt64, -1e300, 0)
	per(1<<53+1, 1, 1<<53)
	per(1<<53+3, 1, 1<<53+4)
	per(math.MaxInt64, 1, 0x1p63)
}

func TestPerIsTheQuotientCut(t *testing.T) {
	for _, n := range wholes() {
		for _, x := range []float64{-1e300, -0x1p62, -7.9, -3, -2, -1, 1, 1.5, 2, 3, 1000, 0x1p53, 0x1p62} {
			whole, _ := new(big.Float).SetFloat64(x).Int64()
			quotient := new(big.Int).Quo(big.NewInt(n), big.NewInt(whole))
			if !quotient.IsInt64() {
				quotient = big.NewInt(math.MinInt64)
			}
			nearest, _ := new(big.Rat).SetInt(quotient).Float64()
			wantVal(t, api.Op{Kind: api.OpPer, N: n}, x, nearest)
		}
	}
}

func TestPerTrapsAtNought(t *testing.T) {
	for _, n := range wholes() {
		for _, x := range append(nans(), 0, minusNought, 0.5, -0.5, smallest, -smallest, 1-0x1p-53, -1+0x1p-53) {
			wantGone(t, api.Op{Kind: api.OpPer, N: n}, x, api.Trapped)
		}
	}
}

func TestRegroup(t *testing.T) {
	for _, n := range wholes() {
		if n < 1 {
			continue
		}
		for _, key := range keys() {
			rest := new(big.Int).Mod(new(big.Int).SetUint64(key), big.NewInt(n)).Uint64()
			wantOne(t, api.Op{Kind: api.OpRegroup, N: n}, api.Record{Key: key, Val: -0.5}, api.Record{Key: rest, Val: -0.5}, api.Kept)
		}
	}
	wantOne(t, api.Op{Kind: api.OpRegroup, N: 10}, api.Record{Key: math.MaxUint64}, api.Record{Key: 5}, api.Kept)
}

func TestSide(t *testing.T) {
	for _, key := range keys() {
		rest := key
		for rest >= 1<<62 {
			rest -= 1 << 62
		}
		for i, x := range values() {
			side := uint64(3)
			switch {
			case i < slices.Index(numbers(), 0):
				side = 0
			case x == 0:
				side = 1
			case i < len(numbers()):
				side = 2
			}
			wantOne(t, api.Op{Kind: api.OpSide}, api.Record{Key: key, Val: x}, api.Record{Key: 4*rest + side, Val: canon(x)}, api.Kept)
		}
	}
	wantOne(t, api.Op{Kind: api.OpSide}, api.Record{Key: math.MaxUint64, Val: told}, api.Record{Key: math.MaxUint64, Val: told}, api.Kept)
}

func TestEveryNaNIsTheOneThatIsTold(t *testing.T) {
	for _, x := range nans() {
		for _, o := range []api.Op{
			{Kind: api.OpNeg}, {Kind: api.OpAbs}, {Kind: api.OpFloor}, {Kind: api.OpScale, N: 3}, {Kind: api.OpScale, N: -2200}, {Kind: api.OpInverse},
		} {
			wantVal(t, o, x, told)
		}
		wantOne(t, api.Op{Kind: api.OpRegroup, N: 3}, api.Record{Key: 8, Val: x}, api.Record{Key: 2, Val: told}, api.Kept)
		wantOne(t, api.Op{Kind: api.OpSide}, api.Record{Key: 8, Val: x}, api.Record{Key: 35, Val: told}, api.Kept)
	}
}

func TestOneLooksAtNothingElse(t *testing.T) {
	for kind := api.OpLess; kind <= api.OpSide; kind++ {
		asksN := kind == api.OpScale || kind == api.OpPer || kind == api.OpRegroup
		asksX := kind == api.OpLess || kind == api.OpMore
		for _, v := range values() {
			r := api.Record{Key: 1<<63 + 7, Val: v}
			plain := api.Op{Kind: kind, N: 5, X: 1}
			want, fate := One(plain, r)
			for _, n := range wholes() {
				if !asksN {
					wantOne(t, api.Op{Kind: kind, N: n, X: 1}, r, want, fate)
				}
			}
			for _, x := range values() {
				if !asksX {
					wantOne(t, api.Op{Kind: kind, N: 5, X: x}, r, want, fate)
				}
			}
		}
	}
}

// P3.3 and P3.4 (wantRun asks Key too).

func TestRunWithoutSteps(t *testing.T) {
	for _, list := range [][]api.Op{nil, {}, neg(3)[:0]} {
		for _, key := range keys() {
			for _, x := range values() {
				wantRun(t, list, api.Record{Key: key, Val: x}, api.Record{Key: key, Val: canon(x)}, api.Kept)
			}
		}
	}
}

func TestRunOfOneStepIsOne(t *testing.T) {
	for _, o := range append(steps(), noSteps()...) {
		for _, x := range values() {
			r := api.Record{Key: 1<<62 + 3, Val: x}
			want, fate := One(o, r)
			wantRun(t, []api.Op{o}, r, want, fate)
		}
	}
}

// chain is a list's steps one by one.
func chain(list []api.Op, r api.Record) (api.Record, int) {
	for _, o := range list {
		next, fate := One(o, r)
		if fate != api.Kept {
			return next, fate
		}
		r = next
	}
	return r, api.Kept
}

func TestRunGoesStepByStep(t *testing.T) {
	for _, first := range steps() {
		for _, second := range steps() {
			for _, third := range []api.Op{{Kind: api.OpNeed}, {Kind: api.OpSide}, {Kind: api.OpPer, N: -9}, {Kind: api.OpLess, X: 1}} {
				list := []api.Op{first, second, third}
				for _, x := range values() {
					r := api.Record{Key: math.MaxUint64 - 2, Val: x}
					want, fate := chain(list, r)
					wantRun(t, list, r, want, fate)
				}
			}
		}
	}
}

func TestRunOfEightSteps(t *testing.T) {
	list := []api.Op{
		{Kind: api.OpReal}, {Kind: api.OpNeg}, {Kind: api.OpScale, N: 1}, {Kind: api.OpFloor},
		{Kind: api.OpPer, N: 100}, {Kind: api.OpNeed}, {Kind: api.OpSide}, {Kind: api.OpRegroup, N: 10},
	}
	wantRun(t, list, api.Record{Key: 8, Val: 1.7}, api.Record{Key: 2, Val: -25}, api.Kept)
	wantRun(t, list, api.Record{Key: 8, Val: -1.7}, api.Record{Key: 4, Val: 33}, api.Kept)
	wantRun(t, list, api.Record{Key: 8, Val: math.NaN()}, api.Record{}, api.Dropped)
	wantRun(t, list, api.Record{Key: 8, Val: -0.2}, api.Record{}, api.Trapped)
	wantRun(t, append(list, api.Op{Kind: api.OpNeg}), api.Record{Key: 8, Val: 1.7}, api.Record{}, 0)
	wantRun(t, neg(7), api.Record{Key: 8, Val: minusNought}, api.Record{Key: 8}, api.Kept)
	wantRun(t, neg(8), api.Record{Key: 8, Val: minusNought}, api.Record{Key: 8, Val: minusNought}, api.Kept)
}

func TestRunEndsAtTheFirstThatGivesItUp(t *testing.T) {
	drops, traps := api.Op{Kind: api.OpLess, X: 0}, api.Op{Kind: api.OpPer}
	for at := range 7 {
		list := neg(8)
		for i := range list {
			list[i] = api.Op{Kind: api.OpAbs}
		}
		list[at], list[7] = drops, traps
		wantRun(t, list, api.Record{Key: 6, Val: 0.5}, api.Record{}, api.Dropped)
		list[at], list[7] = traps, drops
		wantRun(t, list, api.Record{Key: 6, Val: 0.5}, api.Record{}, api.Trapped)
		list[at], list[7] = api.Op{Kind: api.OpNeed}, drops
		wantRun(t, list, api.Record{Key: 6, Val: minusInf}, api.Record{}, api.Trapped)
	}
}

func TestKeyIsTheOneBehindTheSteps(t *testing.T) {
	list := []api.Op{{Kind: api.OpSide}, {Kind: api.OpRegroup, N: 7}, {Kind: api.OpNeed}}
	if key, ok := Key(list, api.Record{Key: 5, Val: -3}); key != 6 || !ok {
		t.Error(key, ok)
	}
	if key, ok := Key(list, api.Record{Key: 5, Val: plusInf}); key != 0 || ok {
		t.Error(key, ok)
	}
	// A key of 0 that is kept is not the 0 of a record that isn't.
	if key, ok := Key([]api.Op{{Kind: api.OpRegroup, N: 5}}, api.Record{Key: 5}); key != 0 || !ok {
		t.Error(key, ok)
	}
	if key, ok := Key(neg(9), api.Record{Key: 5}); key != 0 || ok {
		t.Error(key, ok)
	}
}

// P3.5

func TestWhatIsHandedInStays(t *testing.T) {
	for _, o := range append(steps(), noSteps()...) {
		all := append(slices.Repeat([]api.Op{{Kind: api.OpAbs}, o}, 4), slices.Repeat([]api.Op{{Kind: 77, N: 77, X: 77}}, 8)...)
		for _, x := range values() {
			for count := range len(all) {
				list := slices.Clone(all)
				r := api.Record{Key: 11, Val: x}
				Check(list[:count])
				Run(list[:count], r)
				Key(list[:count], r)
				wantSameOps(t, list, all)
			}
		}
	}
}

func wantSameOps(t *testing.T, got []api.Op, want []api.Op) {
	t.Helper()
	for i, o := range want {
		if got[i].Kind != o.Kind || got[i].N != o.N || math.Float64bits(got[i].X) != math.Float64bits(o.X) {
			t.Fatalf("step %d has become %v", i, got[i])
		}
	}
}

// TestNoTrapLeavesACall would end with the panic itself.
func TestNoTrapLeavesACall(t *testing.T) {
	for kind := -2; kind <= 15; kind++ {
		for _, n := range wholes() {
			for _, x := range values() {
				o := api.Op{Kind: kind, N: n, X: x}
				for _, v := range values() {
					r := api.Record{Key: math.MaxUint64, Val: v}
					got, fate := One(o, r)
					if fate != api.Kept && !same(got, api.Record{}) {
						t.Errorf("One(%v, %v) is %v, %d", o, r, got, fate)
					}
					if math.IsNaN(got.Val) && math.Float64bits(got.Val) != api.QuietNaN {
						t.Errorf("One(%v, %v) has the NaN %x", o, r, math.Float64bits(got.Val))
					}
				}
			}
		}
	}
	// Behind a trap the next call is as ever.
	wantGone(t, api.Op{Kind: api.OpPer}, 0, api.Trapped)
	wantKept(t, api.Op{Kind: api.OpNeed}, 0)
}
