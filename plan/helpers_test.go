package plan

import (
	"math"
	"slices"
	"testing"

	"reprise/api"
)

const (
	// lastKey is the greatest key.
	lastKey = math.MaxUint64
	// room is how much spare room stands behind what is handed in.
	room = 70
)

// fillPair and fillOp are what stands in the spare room of what is handed in.
var (
	fillPair = pair(0xdead, 0xbeef)
	fillOp   = api.Op{Kind: 99, N: 98, X: 97}
)

func pair(key uint64, bits uint64) api.Pair {
	return api.Pair{Key: key, Val: api.Value{Has: true, Bits: bits}}
}

// void: a pair whose value is nothing, with bits that mean nothing.
func void(key uint64, bits uint64) api.Pair { return api.Pair{Key: key, Val: api.Value{Bits: bits}} }

// of: a plan with so many workers and stores.
func of(workers int, stores int) api.Plan {
	return api.Plan{Parts: 2, Stores: stores, Workers: workers, Ops: []api.Op{{Kind: api.OpNeg}}, Agg: api.AggSum, Batch: 2, Window: 3, GiveUp: 20}
}

// field: one of a plan's numbers, with the least and the greatest that it may be.
type field struct {
	name  string
	at    func(p *api.Plan) *int
	least int
	most  int
}

// fields has all of a plan's numbers; the bounds stand as the chapter writes them.
func fields() []field {
	return []field{
		{"Parts", func(p *api.Plan) *int { return &p.Parts }, 1, 4},
		{"Stores", func(p *api.Plan) *int { return &p.Stores }, 1, 4},
		{"Workers", func(p *api.Plan) *int { return &p.Workers }, 1, 4},
		{"Agg", func(p *api.Plan) *int { return &p.Agg }, 1, 4},
		{"Batch", func(p *api.Plan) *int { return &p.Batch }, 1, 16},
		{"Window", func(p *api.Plan) *int { return &p.Window }, 1, 4},
		{"GiveUp", func(p *api.Plan) *int { return &p.GiveUp }, 8, 64},
	}
}

// wrongs: numbers that the field may not be: beside its ends, at the ends of int, and what would be right if it were cut or lost its sign.
func (f field) wrongs() []int {
	return []int{
		f.least - 1, f.most + 1, f.most + 2, 0, -1, -f.least, -f.most, 1000, -1000,
		256 + f.least, 1<<16 + f.least, 1<<32 + f.least, 1<<32 + f.most, math.MinInt + f.least,
		math.MinInt, math.MinInt + 1, math.MaxInt - 1, math.MaxInt,
	}
}

// with: the plan with another number in this field.
func (f field) with(p api.Plan, x int) api.Plan {
	*f.at(&p) = x
	return p
}

// steps has one or more of each kind, with N at its ends and X of any bits.
func steps() []api.Op {
	list := []api.Op{
		{Kind: api.OpScale, N: -2200}, {Kind: api.OpScale}, {Kind: api.OpScale, N: 2200},
		{Kind: api.OpRegroup, N: 1}, {Kind: api.OpRegroup, N: 64}, {Kind: api.OpRegroup, N: math.MaxInt64},
	}
	for kind := api.OpLess; kind <= api.OpSide; kind++ {
		if kind == api.OpScale || kind == api.OpRegroup {
			continue
		}
		list = append(list, api.Op{Kind: kind}, api.Op{Kind: kind, N: math.MinInt64, X: math.Inf(-1)}, api.Op{Kind: kind, N: math.MaxInt64, X: math.NaN()})
	}
	return list
}

// noSteps has what is none, by its kind or by its N.
func noSteps() []api.Op {
	return []api.Op{
		{}, {Kind: 13}, {Kind: 14}, {Kind: -1}, {Kind: -12}, {Kind: math.MaxInt}, {Kind: math.MinInt}, {Kind: 256 + 4}, {Kind: 1<<32 + 4},
		{Kind: api.OpScale, N: 2201}, {Kind: api.OpScale, N: -2201}, {Kind: api.OpScale, N: math.MaxInt64}, {Kind: api.OpScale, N: math.MinInt64},
		{Kind: api.OpScale, N: 1 << 32}, {Kind: api.OpRegroup}, {Kind: api.OpRegroup, N: -1}, {Kind: api.OpRegroup, N: math.MinInt64},
	}
}

func neg(count int) []api.Op { return slices.Repeat([]api.Op{{Kind: api.OpNeg}}, count) }

// noPipelines has each of noSteps alone, ahead of others, between them and behind them, and lists that are too long.
func noPipelines() [][]api.Op {
	lists := [][]api.Op{neg(9), neg(10), neg(256), neg(256 + 3), neg(1<<16 + 1)}
	for _, o := range noSteps() {
		for at := range 8 {
			list := neg(8)
			list[at] = o
			lists = append(lists, list, list[:at+1])
		}
	}
	return lists
}

// noPlans has plans with one thing wrong: each field at each of its wrongs, and Ops that are no pipeline.
func noPlans() []api.Plan {
	var list []api.Plan
	for _, f := range fields() {
		for _, x := range f.wrongs() {
			list = append(list, f.with(of(2, 3), x))
		}
	}
	for _, steps := range noPipelines() {
		p := of(2, 3)
		p.Ops = steps
		list = append(list, p)
	}
	return append(list, api.Plan{})
}

// plans has every number of workers and stores, and with them each other field at its ends, and a pipeline without steps.
func plans() []api.Plan {
	var list []api.Plan
	for workers := 1; workers <= 4; workers++ {
		for stores := 1; stores <= 4; stores++ {
			p := of(workers, stores)
			list = append(list, p)
			p.Ops = nil
			list = append(list, p)
			for _, f := range fields() {
				if f.name != "Workers" && f.name != "Stores" {
					list = append(list, f.with(p, f.least), f.with(p, f.most))
				}
			}
		}
	}
	return list
}

// row: what each node of a plan is, from node 0 on.
func row(p api.Plan) []int {
	kinds := []int{1}
	kinds = append(kinds, slices.Repeat([]int{2}, p.Workers)...)
	return append(kinds, slices.Repeat([]int{3}, p.Stores)...)
}

// someKeys: keys at the ends and at the numbers of stores, and beside them.
func someKeys() []uint64 {
	return []uint64{
		0, 1, 2, 3, 4, 5, 6, 7, 8, 9, 10, 11, 12, 13, 255, 256, 1<<31 - 1, 1 << 31, 1<<32 - 1, 1 << 32, 1<<32 + 1,
		1<<62 + 1, 1<<63 - 1, 1 << 63, 1<<63 + 1, 1<<63 + 2, lastKey - 3, lastKey - 2, lastKey - 1, lastKey,
	}
}

// tables has pairs whose keys rise, fall and come twice, and values of every sort.
func tables() [][]api.Pair {
	var rising, falling, twice, values []api.Pair
	for i, key := range someKeys() {
		rising = append(rising, pair(key, uint64(i)))
		falling = append([]api.Pair{pair(key, uint64(i))}, falling...)
		twice = append(twice, pair(key, 1), pair(3, uint64(i)), void(key, uint64(i)), pair(key, 1))
		values = append(values,
			void(key, 0), void(key, 7), void(key, lastKey), pair(key, 0), pair(key, lastKey), pair(key, 1<<63),
			pair(key, api.QuietNaN), pair(key, 0xfff0000000000001), pair(key, math.Float64bits(math.Inf(1))))
	}
	return [][]api.Pair{
		nil, {}, {pair(0, 0)}, {pair(lastKey, 1)}, {void(5, 5)}, {{}}, {pair(2, 1), pair(2, 1)}, slices.Repeat([]api.Pair{void(1, 0)}, 9),
		rising, falling, twice, values, many(100, 1), many(300, 12),
	}
}

// many: pairs with keys that go by step from the greatest on.
func many(count int, step uint64) []api.Pair {
	var list []api.Pair
	for i := range uint64(count) {
		list = append(list, pair(lastKey-i*step, i))
	}
	return list
}

// dealt: what P14.4 says, store by store: a store's list is the pairs that are no other's.
func dealt(p api.Plan, table []api.Pair) [][]api.Pair {
	var lists [][]api.Pair
	for store := range p.Stores {
		lists = append(lists, slices.DeleteFunc(slices.Clone(table), func(one api.Pair) bool {
			return StoreOf(p, one.Key) != 1+p.Workers+store
		}))
	}
	return lists
}

func sameLists(a [][]api.Pair, b [][]api.Pair) bool { return slices.EqualFunc(a, b, slices.Equal) }

// roomy is a list with spare room behind it that is filled.
func roomy[E any](list []E, with E) []E {
	return append(slices.Clone(list), slices.Repeat([]E{with}, room)...)[:len(list)]
}

// wantRoomy tells if a list, or the spare room behind it, isn't what roomy made of old.
func wantRoomy[E any](t *testing.T, what string, list []E, old []E, with E, same func(E, E) bool) {
	t.Helper()
	want := append(slices.Clone(old), slices.Repeat([]E{with}, room)...)
	if all := list[:len(list)+room]; !slices.EqualFunc(all, want, same) {
		t.Errorf("%s: what was handed in has become %v", what, all)
	}
}

func sameOp(a api.Op, b api.Op) bool {
	return a.Kind == b.Kind && a.N == b.N && math.Float64bits(a.X) == math.Float64bits(b.X)
}

func samePair(a api.Pair, b api.Pair) bool { return a == b }

// spoil writes over a list and over its spare room, and grows it.
func spoil[E any](list []E, with E) {
	all := list[:cap(list)]
	for i := range all {
		all[i] = with
	}
	_ = append(list, slices.Repeat([]E{with}, cap(list)-len(list)+1)...)
}

// held: a plan whose Ops have spare room, and a function that tells if they were changed.
func held(t *testing.T, p api.Plan) (api.Plan, func(what string)) {
	old := p.Ops
	p.Ops = roomy(old, fillOp)
	return p, func(what string) {
		t.Helper()
		wantRoomy(t, what, p.Ops, old, fillOp, sameOp)
	}
}

func wantCheck(t *testing.T, p api.Plan, want api.Errno) {
	t.Helper()
	in, stays := held(t, p)
	if e := Check(in); e != want {
		t.Errorf("Check(%v) is %d, not %d", p, e, want)
	}
	stays("Check")
	if e := Check(p); e != want {
		t.Errorf("Check(%v) the second time is %d, not %d", p, e, want)
	}
}

func wantNodes(t *testing.T, p api.Plan, want int) {
	t.Helper()
	in, stays := held(t, p)
	if n := Nodes(in); n != want {
		t.Errorf("Nodes(%v) is %d, not %d", p, n, want)
	}
	stays("Nodes")
}

func wantKind(t *testing.T, p api.Plan, node int, want int) {
	t.Helper()
	in, stays := held(t, p)
	if k := Kind(in, node); k != want {
		t.Errorf("Kind(%v, %d) is %d, not %d", p, node, k, want)
	}
	stays("Kind")
}

func wantWorkerOf(t *testing.T, p api.Plan, attempt int, want int) {
	t.Helper()
	in, stays := held(t, p)
	if n := WorkerOf(in, attempt); n != want {
		t.Errorf("WorkerOf(%v, %d) is %d, not %d", p, attempt, n, want)
	}
	stays("WorkerOf")
}

func wantStoreOf(t *testing.T, p api.Plan, key uint64, want int) {
	t.Helper()
	in, stays := held(t, p)
	if n := StoreOf(in, key); n != want {
		t.Errorf("StoreOf(%v, %d) is %d, not %d", p, key, n, want)
	}
	stays("StoreOf")
}

// wantDeal tells of an answer that isn't this one, and of one that shares memory with what was handed in or with a second answer.
func wantDeal(t *testing.T, p api.Plan, table []api.Pair, want [][]api.Pair) {
	t.Helper()
	in, stays := held(t, p)
	pairs := roomy(table, fillPair)
	first := Deal(in, pairs)
	if !sameLists(first, want) {
		t.Errorf("Deal(%v, %v) is %v, not %v", p, table, first, want)
	}
	second := Deal(in, pairs)
	for _, list := range first {
		spoil(list, pair(3, 3))
	}
	spoil(first, []api.Pair{pair(4, 4)})
	stays("Deal")
	wantRoomy(t, "Deal, its answer written over", pairs, table, fillPair, samePair)
	spoil(pairs, pair(5, 5))
	spoil(in.Ops, api.Op{})
	if !sameLists(second, want) {
		t.Errorf("Deal(%v, %v): the answer hangs on what was handed in or on the other answer: %v", p, table, second)
	}
	if tight := Deal(p, slices.Clip(slices.Clone(table))); !sameLists(tight, want) {
		t.Errorf("Deal(%v, %v) without spare room is %v", p, table, tight)
	}
}

// wantAlone tells if a list of Deal's answer, written over and grown, changes another one of it.
func wantAlone(t *testing.T, p api.Plan, table []api.Pair) {
	t.Helper()
	for at := range p.Stores {
		lists := Deal(p, table)
		spoil(lists[at], pair(6, 6))
		want := dealt(p, table)
		lists[at], want[at] = nil, nil
		if !sameLists(lists, want) {
			t.Errorf("Deal(%v, %v): its list %d changed another one: %v", p, table, at, lists)
		}
	}
}

// wantNone holds every call to what it answers where there is no plan.
func wantNone(t *testing.T, p api.Plan, code api.Errno) {
	t.Helper()
	wantCheck(t, p, code)
	wantNodes(t, p, 0)
	for _, node := range []int{math.MinInt, -1, 0, 1, 2, 3, 5, 6, math.MaxInt} {
		wantKind(t, p, node, 0)
	}
	for _, attempt := range []int{math.MinInt, -1, 0, 1, 2, 5, 1 << 40, math.MaxInt} {
		wantWorkerOf(t, p, attempt, -1)
	}
	for _, key := range []uint64{0, 1, 7, lastKey} {
		wantStoreOf(t, p, key, -1)
	}
	wantDeal(t, p, nil, nil)
	wantDeal(t, p, []api.Pair{pair(3, 1), void(1, 2), pair(lastKey, 3)}, nil)
}
