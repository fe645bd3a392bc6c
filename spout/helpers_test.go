package spout

import (
	"math"
	"slices"
	"testing"

	"reprise/api"
	"reprise/source"
)

// far has numbers that are no place in any partition, what would be one if it were cut among them.
func far() []int {
	return []int{-257, -2, -1, 257, 1 << 16, 1 << 32, 1<<32 + 1, math.MaxInt, math.MaxInt - 1, math.MinInt, math.MinInt + 1}
}

// noMosts has numbers that no batch takes of a partition.
func noMosts() []int {
	return []int{0, -1, -16, 17, 18, 256 + 1, 1<<16 + 2, 1<<32 + 3, math.MaxInt, math.MaxInt - 15, math.MinInt, math.MinInt + 16}
}

// rec: each record of a test has a value of its own, and few keys.
func rec(p int, place int) api.Record {
	return api.Record{Key: uint64(place % 7), Val: float64(1000*p + place)}
}

func sameRecord(a api.Record, b api.Record) bool {
	return a.Key == b.Key && math.Float64bits(a.Val) == math.Float64bits(b.Val)
}

func sameRecords(a []api.Record, b []api.Record) bool { return slices.EqualFunc(a, b, sameRecord) }

func sameTriple(a api.Triple, b api.Triple) bool {
	return a.Batch == b.Batch && slices.Equal(a.Prev, b.Prev) && slices.Equal(a.Cur, b.Cur)
}

func ends(of ...int) []int { return of }

func triple(batch int, prev []int, cur []int) api.Triple {
	return api.Triple{Batch: batch, Prev: prev, Cur: cur}
}

// bench is a source, and beside it what stands in it and what is off.
type bench struct {
	*source.Source
	logs [][]api.Record
	off  []bool
}

// newBench: a source whose partitions have so many records.
func newBench(t *testing.T, counts ...int) *bench {
	t.Helper()
	s, e := source.New(len(counts), nil)
	if e != api.OK {
		t.Fatalf("New(%d, no steps) is %d", len(counts), e)
	}
	b := &bench{s, make([][]api.Record, len(counts)), make([]bool, len(counts))}
	for p, count := range counts {
		b.grow(t, p, count)
	}
	return b
}

func (b *bench) grow(t *testing.T, p int, count int) {
	t.Helper()
	for range count {
		r := rec(p, len(b.logs[p]))
		if e := b.Produce(p, r); e != api.OK {
			t.Fatalf("Produce(%d, %v) is %d", p, r, e)
		}
		b.logs[p] = append(b.logs[p], r)
	}
}

func (b *bench) turn(t *testing.T, p int, on bool) {
	t.Helper()
	if e := b.Switch(p, on); e != api.OK {
		t.Fatalf("Switch(%d, %t) is %d", p, on, e)
	}
	b.off[p] = !on
}

// turnAll: partition p is off if its bit of the number is 1.
func (b *bench) turnAll(t *testing.T, off int) {
	t.Helper()
	for p := range b.logs {
		b.turn(t, p, off>>p&1 == 0)
	}
}

// hold: no call has changed the source.
func (b *bench) hold(t *testing.T) {
	t.Helper()
	for p, log := range b.logs {
		if !sameRecords(b.Log(p), log) || b.Up(p) == b.off[p] {
			t.Fatalf("partition %d of the source is %v, %t, not %v, %t", p, b.Log(p), b.Up(p), log, !b.off[p])
		}
	}
	if b.Parts() != len(b.logs) {
		t.Fatalf("the source has %d partitions, not %d", b.Parts(), len(b.logs))
	}
}

func (b *bench) fitting(list []int) bool {
	ok := len(list) == len(b.logs)
	for p := 0; ok && p < len(list); p++ {
		ok = list[p] >= 0 && list[p] <= len(b.logs[p])
	}
	return ok
}

// formed is what Form is to answer, record by record.
func (b *bench) formed(from []int, most int) ([]int, []api.Record, api.Errno) {
	if most < 1 || most > 16 {
		return nil, nil, api.ErrArg
	}
	if !b.fitting(from) {
		return nil, nil, api.ErrEnds
	}
	var to []int
	var recs []api.Record
	for p, log := range b.logs {
		taken := 0
		for i, r := range log {
			if !b.off[p] && i >= from[p] && taken < most {
				recs = append(recs, r)
				taken++
			}
		}
		to = append(to, from[p]+taken)
	}
	return to, recs, api.OK
}

// again is what Again is to answer, record by record.
func (b *bench) again(from []int, to []int) ([]api.Record, api.Errno) {
	if !b.fitting(from) || !b.fitting(to) {
		return nil, api.ErrEnds
	}
	var recs []api.Record
	for p, log := range b.logs {
		if from[p] > to[p] {
			return nil, api.ErrEnds
		}
		for i, r := range log {
			if from[p] <= i && i < to[p] {
				recs = append(recs, r)
			}
		}
	}
	return recs, api.OK
}

// left is what Left is to answer.
func (b *bench) left(list []int) (int, api.Errno) {
	if !b.fitting(list) {
		return 0, api.ErrEnds
	}
	n := 0
	for p, log := range b.logs {
		n += len(log[list[p]:])
	}
	return n, api.OK
}

// allEnds: every list of ends that fits the bench; for small ones.
func (b *bench) allEnds() [][]int {
	all := [][]int{nil}
	for _, log := range b.logs {
		var longer [][]int
		for _, list := range all {
			for end := range len(log) + 1 {
				longer = append(longer, append(slices.Clone(list), end))
			}
		}
		all = longer
	}
	return all
}

// noEnds: lists that don't fit the bench: too short, too long, and out of one partition each.
func (b *bench) noEnds() [][]int {
	var all [][]int
	for count := range len(b.logs) + 3 {
		if count != len(b.logs) {
			all = append(all, make([]int, count))
		}
	}
	all = append(all, nil, make([]int, 300))
	for p, log := range b.logs {
		for _, end := range append(far(), len(log)+1) {
			list := make([]int, len(b.logs))
			list[p] = end
			all = append(all, list)
		}
	}
	return all
}

// roomy: a list with the same elements and with spare room that holds something.
func roomy[E any](list []E, spare E) []E {
	all := append(slices.Clone(list), slices.Repeat([]E{spare}, 5)...)
	return all[:len(list)]
}

// spoil writes over a list and over its spare room.
func spoil[E any](list []E, with E) {
	list = list[:cap(list)]
	for i := range list {
		list[i] = with
	}
}

// guard hands a list in with spare room, and says afterwards whether all of it stays.
func guard(t *testing.T, list []int) ([]int, func(call string)) {
	t.Helper()
	in := roomy(list, 77)
	was := slices.Clone(in[:cap(in)])
	return in, func(call string) {
		t.Helper()
		if !slices.Equal(in[:cap(in)], was) {
			t.Fatalf("%s has made %v of the ends %v and their spare room", call, in[:cap(in)], was)
		}
	}
}

func wantForm(t *testing.T, s *source.Source, from []int, most int, to []int, recs []api.Record, e api.Errno) {
	t.Helper()
	in, stays := guard(t, from)
	gotTo, got, code := Form(s, in, most)
	if !slices.Equal(gotTo, to) || !sameRecords(got, recs) || code != e {
		t.Errorf("Form(s, %v, %d) is %v, %v, %d, not %v, %v, %d", from, most, gotTo, got, code, to, recs, e)
	}
	stays("Form")
	spoil(gotTo, 99)
	spoil(got, api.Record{Key: 99, Val: 99})
	stays("a change of what Form answered")
}

func wantAgain(t *testing.T, s *source.Source, from []int, to []int, recs []api.Record, e api.Errno) {
	t.Helper()
	in, stays := guard(t, from)
	out, outStays := guard(t, to)
	got, code := Again(s, in, out)
	if !sameRecords(got, recs) || code != e {
		t.Errorf("Again(s, %v, %v) is %v, %d, not %v, %d", from, to, got, code, recs, e)
	}
	spoil(got, api.Record{Key: 99, Val: 99})
	stays("Again")
	outStays("Again")
}

func wantForward(t *testing.T, a []int, b []int, want bool) {
	t.Helper()
	in, stays := guard(t, a)
	out, outStays := guard(t, b)
	if got := Forward(in, out); got != want {
		t.Errorf("Forward(%v, %v) is %t", a, b, got)
	}
	stays("Forward")
	outStays("Forward")
}

func wantLeft(t *testing.T, s *source.Source, list []int, n int, e api.Errno) {
	t.Helper()
	in, stays := guard(t, list)
	if got, code := Left(s, in); got != n || code != e {
		t.Errorf("Left(s, %v) is %d, %d, not %d, %d", list, got, code, n, e)
	}
	stays("Left")
}

func wantStep(t *testing.T, tr api.Triple, to []int, want api.Triple, e api.Errno) {
	t.Helper()
	prev, prevStays := guard(t, tr.Prev)
	cur, curStays := guard(t, tr.Cur)
	in, stays := guard(t, to)
	got, code := Step(triple(tr.Batch, prev, cur), in)
	if !sameTriple(got, want) || code != e {
		t.Errorf("Step(%v, %v) is %v, %d, not %v, %d", tr, to, got, code, want, e)
	}
	check := func(call string) {
		t.Helper()
		prevStays(call)
		curStays(call)
		stays(call)
	}
	check("Step")
	spoil(got.Prev, 99)
	if !slices.Equal(got.Cur, want.Cur) {
		t.Errorf("the two lists of Step(%v, %v) share memory", tr, to)
	}
	spoil(got.Cur, 99)
	check("a change of what Step answered")
}

func wantNoStep(t *testing.T, tr api.Triple, to []int, e api.Errno) {
	t.Helper()
	wantStep(t, tr, to, api.Triple{}, e)
}

func wantAt(t *testing.T, tr api.Triple, batch int, want []int, ok bool) {
	t.Helper()
	prev, prevStays := guard(t, tr.Prev)
	cur, curStays := guard(t, tr.Cur)
	got, gotOK := At(triple(tr.Batch, prev, cur), batch)
	if !slices.Equal(got, want) || gotOK != ok {
		t.Errorf("At(%v, %d) is %v, %t, not %v, %t", tr, batch, got, gotOK, want, ok)
	}
	spoil(got, 99)
	prevStays("At")
	curStays("At")
}
