package fbit

import (
	"math"
	"math/big"
	"slices"
	"testing"

	"reprise/api"
)

// P1.1, example 1.
func TestClassAtEdges(t *testing.T) {
	for _, c := range []struct {
		x    float64
		want int
	}{
		{0, api.Zero}, {minusNought, api.Zero},
		{smallest, api.Small}, {-smallest, api.Small}, {mostSmall, api.Small}, {-mostSmall, api.Small},
		{2.2250738585072014e-308, api.Normal}, {leastNorm, api.Normal}, {-leastNorm, api.Normal},
		{1, api.Normal}, {-2.5, api.Normal}, {math.MaxFloat64, api.Normal}, {-math.MaxFloat64, api.Normal},
		{plusInf, api.Infinite}, {minusInf, api.Infinite},
	} {
		if got := Class(c.x); got != c.want {
			t.Errorf("Class(%v) is %d, not %d", c.x, got, c.want)
		}
	}
	for _, x := range nans() {
		if got := Class(x); got != api.Nan {
			t.Errorf("Class of the NaN %x is %d", math.Float64bits(x), got)
		}
	}
}

// P1.1: the class told by exponent and fraction alone.
func TestClassByBits(t *testing.T) {
	for _, x := range all() {
		exponent, fraction := math.Float64bits(x)>>52&2047, math.Float64bits(x)&(1<<52-1)
		want := api.Normal
		switch {
		case exponent == 2047 && fraction != 0:
			want = api.Nan
		case exponent == 2047:
			want = api.Infinite
		case exponent == 0 && fraction != 0:
			want = api.Small
		case exponent == 0:
			want = api.Zero
		}
		if got := Class(x); got != want {
			t.Errorf("Class(%v) is %d, not %d", x, got, want)
		}
	}
}

// P1.2.
func TestCanon(t *testing.T) {
	for _, x := range append(row(), scattered(2000)...) {
		if !math.IsNaN(x) {
			wantFloat(t, Canon(x), x, "Canon", x)
		}
	}
	for _, x := range nans() {
		wantTold(t, Canon(x), "Canon", math.Float64bits(x))
	}
}

// P1.3, example 2.
func TestOrderExamples(t *testing.T) {
	for _, c := range []struct {
		a, b float64
		want int
	}{
		{minusNought, 0, -1}, {0, minusNought, 1}, {0, 0, 0}, {minusNought, minusNought, 0},
		{plusInf, math.NaN(), -1}, {math.NaN(), plusInf, 1}, {float(0xfff8000000000001), minusInf, 1},
		{1, -1, 1}, {-1, 1, -1}, {-2, -1, -1}, {3, 3, 0}, {plusInf, plusInf, 0}, {minusInf, minusInf, 0},
	} {
		if got := Order(c.a, c.b); got != c.want {
			t.Errorf("Order(%v, %v) is %d, not %d", c.a, c.b, got, c.want)
		}
	}
	for _, a := range nans() {
		for _, b := range nans() {
			if got := Order(a, b); got != 0 {
				t.Errorf("Order of the NaNs %x and %x is %d", math.Float64bits(a), math.Float64bits(b), got)
			}
		}
	}
}

// place: a number that rises along the row.
func place(x float64) uint64 {
	bits := math.Float64bits(x)
	switch {
	case math.IsNaN(x):
		return math.MaxUint64
	case bits>>63 == 1:
		return ^bits
	}
	return bits | 1<<63
}

func wantOrder(a float64, b float64) int {
	switch {
	case place(a) < place(b):
		return -1
	case place(a) > place(b):
		return 1
	}
	return 0
}

// P1.3: each pair of the row, and many others.
func TestOrderOfRow(t *testing.T) {
	list := row()
	for i := 1; i < len(list); i++ {
		if place(list[i-1]) >= place(list[i]) {
			t.Fatalf("the list isn't in order at %v", list[i])
		}
	}
	list = append(append(list, nans()...), scattered(300)...)
	for _, a := range list {
		for _, b := range list {
			if got := Order(a, b); got != wantOrder(a, b) {
				t.Errorf("Order(%v, %v) is %d, not %d", a, b, got, wantOrder(a, b))
			}
		}
	}
}

// P1.4.
func TestLeastAndMost(t *testing.T) {
	list := append(append(row(), nans()...), scattered(300)...)
	for _, a := range list {
		for _, b := range list {
			ahead, behind := a, b
			if wantOrder(a, b) > 0 {
				ahead, behind = b, a
			}
			wantFloat(t, Least(a, b), Canon(ahead), "Least", a, b)
			wantFloat(t, Most(a, b), Canon(behind), "Most", a, b)
		}
	}
}

// P1.4: what the promise names in brackets, and NaNs of any bits.
func TestLeastAndMostAtEdges(t *testing.T) {
	for _, pair := range [][2]float64{{minusNought, 0}, {0, minusNought}} {
		wantFloat(t, Least(pair[0], pair[1]), minusNought, "Least", pair)
		wantFloat(t, Most(pair[0], pair[1]), 0, "Most", pair)
	}
	for _, nan := range nans() {
		for _, x := range row() {
			wantFloat(t, Least(nan, x), x, "Least", nan, x)
			wantFloat(t, Least(x, nan), x, "Least", x, nan)
			wantTold(t, Most(nan, x), "Most", nan, x)
			wantTold(t, Most(x, nan), "Most", x, nan)
		}
		for _, other := range nans() {
			wantTold(t, Least(nan, other), "Least", nan, other)
			wantTold(t, Most(nan, other), "Most", nan, other)
		}
	}
}

// ends: the least and the greatest of a list that is gone through from front to back.
func ends(list []float64) (float64, float64) {
	least, most := Canon(list[0]), Canon(list[0])
	for _, x := range list[1:] {
		least, most = Least(least, x), Most(most, x)
	}
	return least, most
}

// P2: in whatever order and in whatever parts the floats come, the ends are those of the row.
func TestEndsInAnyOrderAndParts(t *testing.T) {
	for _, list := range [][]float64{
		row(),
		append(row(), nans()...),
		nans(),
		{0, minusNought, minusInf, float(0xfff0000000000001)},
		{0, minusNought, minusInf},
		{minusNought, 0, smallest, -smallest},
		scattered(60),
	} {
		sorted := slices.Clone(list)
		slices.SortFunc(sorted, wantOrder)
		wantLeast, wantMost := Canon(sorted[0]), Canon(sorted[len(sorted)-1])
		for turn := range list {
			turned := append(slices.Clone(list[turn:]), list[:turn]...)
			for range 2 {
				slices.Reverse(turned)
				least, most := ends(turned)
				wantFloat(t, least, wantLeast, "least of", turned)
				wantFloat(t, most, wantMost, "most of", turned)
				cut := 1 + turn%(len(turned)-1)
				least1, most1 := ends(turned[:cut])
				least2, most2 := ends(turned[cut:])
				wantFloat(t, Least(least2, least1), wantLeast, "least of parts of", turned)
				wantFloat(t, Most(most2, most1), wantMost, "most of parts of", turned)
			}
		}
	}
}

// P1.5, example 3.
func TestWholeAtEdges(t *testing.T) {
	for _, c := range []struct {
		x    float64
		want int64
	}{
		{-2.9, -2}, {2.9, 2}, {-0.5, 0}, {0.5, 0}, {0, 0}, {minusNought, 0}, {smallest, 0}, {-smallest, 0},
		{1 - 0x1p-53, 0}, {-1, -1}, {1, 1}, {0x1p52 - 0.5, 1<<52 - 1}, {0x1p52 + 1, 1<<52 + 1}, {0x1p62, 1 << 62},
		{belowWhole, math.MaxInt64 - 1023}, {-belowWhole, -math.MaxInt64 + 1023},
		{0x1p63, math.MaxInt64}, {-0x1p63, math.MinInt64}, {-0x1p63 - 2048, math.MinInt64}, {0x1p64, math.MaxInt64},
		{1e300, math.MaxInt64}, {-1e300, math.MinInt64}, {plusInf, math.MaxInt64}, {minusInf, math.MinInt64},
	} {
		if got := Whole(c.x); got != c.want {
			t.Errorf("Whole(%v) is %d, not %d", c.x, got, c.want)
		}
	}
	for _, x := range nans() {
		if got := Whole(x); got != 0 {
			t.Errorf("Whole of the NaN %x is %d", math.Float64bits(x), got)
		}
	}
}

// P1.5: against numbers that aren't rounded.
func TestWholeExactly(t *testing.T) {
	for _, x := range all() {
		if !finite(x) {
			continue
		}
		whole, _ := exact(x).Int(nil)
		want := whole.Int64()
		if !whole.IsInt64() {
			want = math.MaxInt64
			if whole.Sign() < 0 {
				want = math.MinInt64
			}
		}
		if got := Whole(x); got != want {
			t.Errorf("Whole(%v) is %d, not %d", x, got, want)
		}
	}
}

// P1.6, example 4.
func TestOf(t *testing.T) {
	for _, c := range []struct {
		n    int64
		want float64
	}{
		{0, 0}, {1, 1}, {-1, -1}, {-7, -7}, {1 << 53, 0x1p53}, {1<<53 - 1, 0x1p53 - 1},
		{9007199254740993, 9007199254740992}, {-9007199254740993, -9007199254740992},
		{9007199254740995, 9007199254740996},
		{math.MaxInt64, 0x1p63}, {math.MinInt64, -0x1p63}, {math.MinInt64 + 1, -0x1p63},
		{math.MaxInt64 - 511, 0x1p63}, {math.MaxInt64 - 512, belowWhole}, {math.MaxInt64 - 1023, belowWhole},
	} {
		wantFloat(t, Of(c.n), c.want, "Of", c.n)
	}
	for _, x := range scattered(2000) {
		n := int64(math.Float64bits(x)) >> (math.Float64bits(x) % 61)
		want, _ := new(big.Float).SetInt64(n).Float64()
		wantFloat(t, Of(n), want, "Of", n)
	}
}

// P1.7, example 4.
func TestFloorAtEdges(t *testing.T) {
	for _, c := range [][2]float64{
		{-0.5, -1}, {0.5, 0}, {minusNought, minusNought}, {0, 0}, {2.5, 2}, {-2.5, -3}, {3, 3}, {-3, -3},
		{smallest, 0}, {-smallest, -1}, {mostSmall, 0}, {-mostSmall, -1}, {leastNorm, 0}, {-leastNorm, -1},
		{1 - 0x1p-53, 0}, {-1 + 0x1p-53, -1}, {1 + 0x1p-52, 1}, {-1 - 0x1p-52, -2},
		{0x1p51 + 0.5, 0x1p51}, {-0x1p51 - 0.5, -0x1p51 - 1}, {0x1p60 + 256, 0x1p60 + 256}, {-0x1p63, -0x1p63},
		{math.MaxFloat64, math.MaxFloat64}, {-math.MaxFloat64, -math.MaxFloat64},
		{plusInf, plusInf}, {minusInf, minusInf},
	} {
		wantFloat(t, Floor(c[0]), c[1], "Floor", c[0])
	}
	for _, x := range nans() {
		wantTold(t, Floor(x), "Floor", math.Float64bits(x))
	}
}

// P1.7: against numbers that aren't rounded.
func TestFloorExactly(t *testing.T) {
	one := big.NewInt(1)
	for _, x := range all() {
		if !plain(x) {
			continue
		}
		whole, rounded := exact(x).Int(nil)
		if rounded == big.Above {
			whole.Sub(whole, one)
		}
		want, _ := new(big.Float).SetInt(whole).Float64()
		wantFloat(t, Floor(x), want, "Floor", x)
	}
}

// P1.8, example 5.
func TestScaleAtEdges(t *testing.T) {
	for _, c := range []struct {
		x    float64
		n    int
		want float64
	}{
		{3, 2, 12}, {3, 0, 3}, {-3, -1, -1.5}, {1, -1074, smallest}, {-1, -1074, -smallest},
		{3, -1075, 1e-323}, {-3, -1075, -1e-323}, {1, -1075, 0}, {-1, -1075, minusNought},
		{1 + 0x1p-52, -1075, smallest}, {1 - 0x1p-53, -1074, smallest}, {5, -1076, smallest}, {2, -1076, 0},
		{smallest, -1, 0}, {-smallest, -1, minusNought}, {3 * smallest, -1, 2 * smallest}, {smallest, 1, 2 * smallest},
		{mostSmall, 1, 2 * mostSmall}, {leastNorm, -1, leastNorm / 2}, {leastNorm, -52, smallest}, {leastNorm, -53, 0},
		{1, 1023, 0x1p1023}, {1, 1024, plusInf}, {-1, 1024, minusInf}, {math.MaxFloat64, 1, plusInf}, {math.MaxFloat64, 0, math.MaxFloat64},
		{smallest, 1074, 1}, {smallest, 2097, 0x1p1023}, {smallest, 2098, plusInf}, {-smallest, 2098, minusInf},
		{math.MaxFloat64, -2097, 2 * smallest}, {math.MaxFloat64, -2098, smallest}, {math.MaxFloat64, -2099, 0}, {-math.MaxFloat64, -2099, minusNought},
		{0x1p1023, -2097, smallest}, {0x1p1023, -2098, 0},
	} {
		wantFloat(t, Scale(c.x, c.n), c.want, "Scale", c.x, c.n)
	}
}

// farPowers has powers that are beyond every float, the ends of int among them.
func farPowers() []int {
	list := []int{2200, 2201, 4000, 1 << 15, 1 << 20, math.MaxInt32, math.MaxInt - 5000, math.MaxInt - 1074, math.MaxInt - 1, math.MaxInt}
	for _, n := range slices.Clone(list) {
		list = append(list, -n)
	}
	return append(list, math.MinInt, math.MinInt+1074)
}

// P1.8: powers at the ends of int.
func TestScaleFar(t *testing.T) {
	for _, x := range all() {
		for _, n := range farPowers() {
			want := Canon(x)
			if plain(x) && n > 0 {
				want = math.Copysign(plusInf, x)
			} else if plain(x) {
				want = math.Copysign(0, x)
			}
			wantFloat(t, Scale(x, n), want, "Scale", x, n)
		}
	}
}

// P1.8: a NaN, an infinity and a nought stay.
func TestScaleOfWhatStays(t *testing.T) {
	for _, n := range append(farPowers(), 0, 1, -1, 53, -53, 1074, -1074) {
		for _, x := range []float64{0, minusNought, plusInf, minusInf} {
			wantFloat(t, Scale(x, n), x, "Scale", x, n)
		}
		for _, x := range nans() {
			wantTold(t, Scale(x, n), "Scale", math.Float64bits(x), n)
		}
	}
}

// P1.8: against numbers that are rounded once.
func TestScaleExactly(t *testing.T) {
	for _, x := range append(row(), scattered(400)...) {
		if !plain(x) {
			continue
		}
		_, exponent := math.Frexp(x)
		powers := []int{-60, -1, 0, 1, 60}
		for n := -1080 - exponent; n <= -1018-exponent; n++ {
			powers = append(powers, n)
		}
		for n := 1020 - exponent; n <= 1028-exponent; n++ {
			powers = append(powers, n)
		}
		for _, n := range powers {
			want, _ := new(big.Float).SetMantExp(exact(x), n).Float64()
			wantFloat(t, Scale(x, n), want, "Scale", x, n)
		}
	}
}
