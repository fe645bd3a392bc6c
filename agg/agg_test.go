package agg

import (
	"fmt"
	"math"
	"math/big"
	"slices"
	"testing"

	"reprise/api"
)

// The three examples.

func TestExampleOf(t *testing.T) {
	wantOf(t, 1, math.NaN(), val(1))
	wantOf(t, 2, -2.9, val(1<<64-2))
	wantText(t, 2, Of(2, -2.9), "-2")
	wantOf(t, 2, math.NaN(), val(0))
	wantOf(t, 3, minusNought, val(0x8000000000000000))
}

func TestExampleMergeOfFloats(t *testing.T) {
	wantMerge(t, 3, Of(3, 0), Of(3, minusNought), Of(3, minusNought))
	wantMerge(t, 4, Of(4, 1), Of(4, math.NaN()), Of(4, math.NaN()))
	wantText(t, 4, Merge(4, Of(4, 1), Of(4, math.NaN())), "7ff8000000000001")
	wantMerge(t, 3, Of(3, 1), Of(3, math.NaN()), Of(3, 1))
}

func TestExampleMergeAtTheLimits(t *testing.T) {
	wantMerge(t, 2, val(1<<63-1), val(1), val(1<<63))
	wantText(t, 2, Merge(2, val(1<<63-1), val(1)), "-9223372036854775808")
	wantMerge(t, 1, void(7), void(9), nothing)
	wantMerge(t, 5, val(1), val(2), nothing)
}

// P4.1

func TestKnown(t *testing.T) {
	for _, kind := range []int{api.AggCount, api.AggSum, api.AggLeast, api.AggMost} {
		if !Known(kind) {
			t.Errorf("Known(%d) is false", kind)
		}
	}
	for kind := -300; kind <= 300; kind++ {
		if Known(kind) != slices.Contains(kinds(), kind) {
			t.Errorf("Known(%d) is %t", kind, Known(kind))
		}
	}
	for _, kind := range noKinds() {
		if Known(kind) {
			t.Errorf("Known(%d) is true", kind)
		}
	}
}

// A kind that is none, at the four other calls.

func TestNoKind(t *testing.T) {
	for _, kind := range noKinds() {
		for _, x := range floats() {
			wantOf(t, kind, x, nothing)
		}
		for _, v := range anyValues() {
			wantFit(t, kind, v, nothing)
			wantText(t, kind, v, "")
			wantMerge(t, kind, v, nothing, nothing)
			wantMerge(t, kind, v, v, nothing)
			wantMerge(t, kind, v, void(7), nothing)
			wantMerge(t, kind, v, val(1), nothing)
		}
	}
}

// P4.2

func TestOfCountIsOne(t *testing.T) {
	for _, x := range floats() {
		wantOf(t, 1, x, val(1))
	}
}

func TestOfSumIsWhole(t *testing.T) {
	for _, c := range []struct {
		x    float64
		want uint64
	}{
		{0, 0}, {minusNought, 0}, {smallest, 0}, {-smallest, 0}, {0.99, 0}, {-0.99, 0}, {1, 1}, {-1, minus(1)}, {2.9, 2}, {-2.9, minus(2)},
		{0x1p53, 1 << 53}, {-0x1p53, minus(1 << 53)}, {0x1p62, 1 << 62}, {0x1.fffffffffffffp62, 1<<63 - 1<<10}, {0x1p63, 1<<63 - 1},
		{-0x1.fffffffffffffp62, minus(1<<63 - 1<<10)}, {-0x1p63, 1 << 63}, {-0x1.0000000000001p63, 1 << 63}, {0x1.0000000000001p63, 1<<63 - 1},
		{0x1p64, 1<<63 - 1}, {-0x1p64, 1 << 63}, {math.MaxFloat64, 1<<63 - 1}, {-math.MaxFloat64, 1 << 63}, {plusInf, 1<<63 - 1}, {minusInf, 1 << 63},
	} {
		wantOf(t, 2, c.x, val(c.want))
	}
	for _, x := range nans() {
		wantOf(t, 2, x, val(0))
	}
}

func TestOfLeastAndMostIsCanon(t *testing.T) {
	for _, kind := range []int{3, 4} {
		for _, x := range numbers() {
			wantOf(t, kind, x, val(bits(x)))
		}
		for _, x := range nans() {
			wantOf(t, kind, x, val(api.QuietNaN))
		}
	}
}

func TestOfIsFit(t *testing.T) {
	for _, kind := range kinds() {
		for _, x := range floats() {
			wantFit(t, kind, Of(kind, x), Of(kind, x))
		}
	}
}

// P4.3

func TestFitOfNothing(t *testing.T) {
	for _, kind := range kinds() {
		wantFit(t, kind, nothing, nothing)
		for _, w := range words() {
			wantFit(t, kind, void(w), nothing)
		}
	}
}

func TestFitOfCountAndSum(t *testing.T) {
	for _, kind := range []int{1, 2} {
		for _, w := range words() {
			wantFit(t, kind, val(w), val(w))
		}
		// Bits of a NaN are a number like any other here.
		for _, x := range nans() {
			wantFit(t, kind, val(bits(x)), val(bits(x)))
		}
	}
}

func TestFitOfLeastAndMost(t *testing.T) {
	for _, kind := range []int{3, 4} {
		for _, x := range numbers() {
			wantFit(t, kind, val(bits(x)), val(bits(x)))
		}
		for _, x := range nans() {
			wantFit(t, kind, val(bits(x)), val(api.QuietNaN))
		}
		for bit := range 64 {
			wantFit(t, kind, val(1<<bit), val(1<<bit))
		}
	}
}

func TestFitTwice(t *testing.T) {
	for _, kind := range kinds() {
		for _, v := range anyValues() {
			wantFit(t, kind, v, fitted(kind, v))
			wantFit(t, kind, Fit(kind, v), Fit(kind, v))
		}
	}
}

// P4.4

func TestMergeWithNothing(t *testing.T) {
	for _, kind := range kinds() {
		for _, v := range anyValues() {
			for _, w := range words() {
				wantMerge(t, kind, v, void(w), fitted(kind, v))
			}
		}
	}
}

func TestMergeOfEachTwo(t *testing.T) {
	for _, kind := range kinds() {
		for _, a := range anyValues() {
			for _, b := range anyValues() {
				want := merged(kind, a, b)
				wantMerge(t, kind, a, b, want)
				wantMerge(t, kind, Fit(kind, a), Fit(kind, b), want)
				wantFit(t, kind, Merge(kind, a, b), want)
			}
		}
	}
}

func TestMergeWrapsRound(t *testing.T) {
	for _, kind := range []int{1, 2} {
		wantMerge(t, kind, val(0), val(0), val(0))
		wantMerge(t, kind, val(1<<64-1), val(1), val(0))
		wantMerge(t, kind, val(1<<64-1), val(2), val(1))
		wantMerge(t, kind, val(1<<64-1), val(1<<64-1), val(1<<64-2))
		wantMerge(t, kind, val(1<<63), val(1<<63), val(0))
		wantMerge(t, kind, val(1<<63-1), val(1<<63-1), val(1<<64-2))
		wantMerge(t, kind, val(1<<63), val(1<<64-1), val(1<<63-1))
	}
}

func TestMergeIsTheSumModulo(t *testing.T) {
	modulus := new(big.Int).Lsh(big.NewInt(1), 64)
	for _, a := range words() {
		for _, b := range words() {
			sum := new(big.Int).Add(new(big.Int).SetUint64(a), new(big.Int).SetUint64(b))
			want := sum.Mod(sum, modulus).Uint64()
			wantMerge(t, 1, val(a), val(b), val(want))
			wantMerge(t, 2, val(a), val(b), val(want))
		}
	}
}

func TestMergeOfTheRow(t *testing.T) {
	row := numbers()
	for i, a := range row {
		for j, b := range row {
			wantMerge(t, 3, val(bits(a)), val(bits(b)), val(bits(row[min(i, j)])))
			wantMerge(t, 4, val(bits(a)), val(bits(b)), val(bits(row[max(i, j)])))
		}
		for _, nan := range nans() {
			wantMerge(t, 3, val(bits(a)), val(bits(nan)), val(bits(a)))
			wantMerge(t, 4, val(bits(a)), val(bits(nan)), val(api.QuietNaN))
		}
	}
	for _, a := range nans() {
		for _, b := range nans() {
			wantMerge(t, 3, val(bits(a)), val(bits(b)), val(api.QuietNaN))
			wantMerge(t, 4, val(bits(a)), val(bits(b)), val(api.QuietNaN))
		}
	}
}

// lists has five values each, some of them nothing, not fit, noughts, NaNs, or over the limits together.
func lists() [][]api.Value {
	return [][]api.Value{
		{val(1<<64 - 1), val(1 << 63), val(1<<63 - 1), val(3), val(1 << 63)},
		{void(5), val(1 << 63), val(0), void(0), val(bits(told))},
		{val(bits(minusNought)), val(bits(0)), val(0xfff0000000000001), val(bits(-1)), void(0xfff8000000000001)},
		{val(bits(plusInf)), val(bits(minusInf)), val(bits(smallest)), val(bits(-smallest)), val(0x7ff0000000000001)},
		{void(1), void(2), void(3), void(4), void(0)},
		{val(0xfff8000000000001), val(0x7ff8000000000000), void(7), val(0x7fffffffffffffff), val(0xffffffffffffffff)},
	}
}

func TestMergeInEveryOrderAndGrouping(t *testing.T) {
	for _, kind := range kinds() {
		for _, list := range lists() {
			want := nothing
			for _, v := range list {
				want = merged(kind, want, v)
			}
			for _, order := range orders(len(list)) {
				mixed := make([]api.Value, len(list))
				for to, from := range order {
					mixed[to] = list[from]
				}
				for _, got := range groupings(kind, mixed) {
					if got != want {
						t.Fatalf("kind %d: %v in the order %v is %v, not %v", kind, list, order, got, want)
					}
				}
			}
		}
	}
}

// P2 and P3 of the whole: what records are in all, out of parts cut anywhere.

func TestPartsOfRecords(t *testing.T) {
	records := floats()
	sum := new(big.Int)
	for _, x := range records {
		sum.Add(sum, big.NewInt(int64(Of(2, x).Bits)))
	}
	modulus := new(big.Int).Lsh(big.NewInt(1), 64)
	want := map[int]api.Value{1: val(uint64(len(records))), 2: val(sum.Mod(sum, modulus).Uint64()), 3: val(bits(minusInf)), 4: val(api.QuietNaN)}
	for _, kind := range kinds() {
		for cut := range len(records) + 1 {
			wantMerge(t, kind, all(kind, records[:cut]), all(kind, records[cut:]), want[kind])
		}
	}
	numbers := numbers()
	for cut := range len(numbers) + 1 {
		wantMerge(t, 4, all(4, numbers[:cut]), all(4, numbers[cut:]), val(bits(plusInf)))
	}
	wantMerge(t, 3, all(3, nans()), nothing, val(api.QuietNaN))
}

// all: the value of records, one by one.
func all(kind int, records []float64) api.Value {
	v := nothing
	for _, x := range records {
		v = Merge(kind, v, Of(kind, x))
	}
	return v
}

// P4.5

func TestTextOfNothing(t *testing.T) {
	for _, kind := range kinds() {
		wantText(t, kind, nothing, "-")
		for _, w := range words() {
			wantText(t, kind, void(w), "-")
		}
	}
}

func TestTextOfCount(t *testing.T) {
	wantText(t, 1, val(0), "0")
	wantText(t, 1, val(1), "1")
	wantText(t, 1, val(100), "100")
	wantText(t, 1, val(1<<63-1), "9223372036854775807")
	wantText(t, 1, val(1<<63), "9223372036854775808")
	wantText(t, 1, val(1<<64-1), "18446744073709551615")
	wantText(t, 1, val(0xfff8000000000001), "18444492273895866369")
}

func TestTextOfSum(t *testing.T) {
	wantText(t, 2, val(0), "0")
	wantText(t, 2, val(1), "1")
	wantText(t, 2, val(minus(1)), "-1")
	wantText(t, 2, val(minus(10)), "-10")
	wantText(t, 2, val(1<<63-1), "9223372036854775807")
	wantText(t, 2, val(1<<63), "-9223372036854775808")
	wantText(t, 2, val(1<<63+1), "-9223372036854775807")
	wantText(t, 2, val(0xfff8000000000001), "-2251799813685247")
}

func TestTextOfLeastAndMost(t *testing.T) {
	for _, kind := range []int{3, 4} {
		for x, want := range map[float64]string{
			0: "0000000000000000", 1: "3ff0000000000000", -1: "bff0000000000000", smallest: "0000000000000001", -smallest: "8000000000000001",
			plusInf: "7ff0000000000000", minusInf: "fff0000000000000", math.MaxFloat64: "7fefffffffffffff", -math.MaxFloat64: "ffefffffffffffff",
		} {
			wantText(t, kind, val(bits(x)), want)
		}
		wantText(t, kind, val(bits(minusNought)), "8000000000000000")
		wantText(t, kind, val(0x0123456789abcdef), "0123456789abcdef")
		wantText(t, kind, val(0x00000000fedcba98), "00000000fedcba98")
		for _, x := range nans() {
			wantText(t, kind, val(bits(x)), "7ff8000000000001")
		}
	}
}

func TestTextOfEachWidth(t *testing.T) {
	for bit := range 64 {
		w := uint64(1) << bit
		for _, bits := range []uint64{w, w - 1, -w} {
			wantText(t, 1, val(bits), fmt.Sprint(bits))
			wantText(t, 2, val(bits), fmt.Sprint(int64(bits)))
			wantText(t, 3, val(bits), fmt.Sprintf("%016x", canonBits(bits)))
			wantText(t, 4, val(bits), fmt.Sprintf("%016x", canonBits(bits)))
		}
	}
}
