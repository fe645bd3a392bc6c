package topo

import (
	"math"
	"slices"
	"testing"

	"reprise/api"
)

const (
	// filler is what stands in the spare room of lists that are handed in, and what is written over those that are answered.
	filler = 33
	room   = 5
)

// small: the chapter's plan.
func small() api.Plan {
	return api.Plan{Parts: 1, Stores: 1, Workers: 1, Agg: api.AggSum, Batch: 2, Window: 1, GiveUp: 8}
}

// pairwise: a plan of two of everything, without steps.
func pairwise() api.Plan {
	return api.Plan{Parts: 2, Stores: 2, Workers: 2, Agg: api.AggSum, Batch: 2, Window: 2, GiveUp: 8}
}

// plans: several, no two of which have much in common.
func plans() []api.Plan {
	return []api.Plan{
		small(),
		pairwise(),
		{Parts: 2, Stores: 2, Workers: 2, Ops: []api.Op{{Kind: api.OpRegroup, N: 7}}, Agg: api.AggCount, Batch: 3, Window: 2, GiveUp: 8},
		{Parts: 3, Stores: 3, Workers: 1, Ops: []api.Op{{Kind: api.OpInverse}, {Kind: api.OpNeed}}, Agg: api.AggLeast, Batch: 1, Window: 4, GiveUp: 9},
		{Parts: 4, Stores: 4, Workers: 4, Agg: api.AggMost, Batch: 16, Window: 3, GiveUp: 64},
		{Parts: 2, Stores: 1, Workers: 3, Ops: []api.Op{{Kind: api.OpPer, N: 12}, {Kind: api.OpSide}}, Agg: api.AggSum, Batch: 2, Window: 4, GiveUp: 12},
		{Parts: 1, Stores: 4, Workers: 2, Ops: []api.Op{{Kind: api.OpReal}, {Kind: api.OpScale, N: 3}, {Kind: api.OpFloor}}, Agg: api.AggSum, Batch: 5, Window: 3, GiveUp: 10},
	}
}

// nodesOf: how many nodes a plan has.
func nodesOf(p api.Plan) int { return 1 + p.Workers + p.Stores }

// isWorker, isStore: what a node of a plan is.
func isWorker(p api.Plan, node int) bool { return 1 <= node && node <= p.Workers }

func isStore(p api.Plan, node int) bool { return p.Workers < node && node < nodesOf(p) }

// keeper: the store that keeps a key.
func keeper(p api.Plan, key uint64) int { return 1 + p.Workers + int(key%uint64(p.Stores)) }

// numbers: a few that are nodes of a plan, or partitions, or messages, and many that are none.
func numbers() []int {
	return []int{math.MinInt, -1 << 32, -256, -2, -1, 0, 1, 2, 3, 4, 5, 6, 7, 8, 9, 10, 256, 257, 1 << 32, 1<<32 + 1, math.MaxInt}
}

// The steps.

func produce(part int, key uint64, val float64) api.Step {
	return api.Step{Kind: api.StepProduce, Node: part, Rec: api.Record{Key: key, Val: val}}
}

func turn(part int, on int) api.Step { return api.Step{Kind: api.StepSwitch, Node: part, N: on} }

func tick() api.Step { return api.Step{Kind: api.StepTick} }

func deliver(k int) api.Step { return api.Step{Kind: api.StepDeliver, N: k} }

func drop(k int) api.Step { return api.Step{Kind: api.StepDrop, N: k} }

func double(k int) api.Step { return api.Step{Kind: api.StepCopy, N: k} }

func cut(node int, n int) api.Step { return api.Step{Kind: api.StepCut, Node: node, N: n} }

func crash(node int) api.Step { return api.Step{Kind: api.StepCrash, Node: node} }

func restart(node int) api.Step { return api.Step{Kind: api.StepRestart, Node: node} }

func query(key uint64) api.Step {
	return api.Step{Kind: api.StepQuery, Rec: api.Record{Key: key}}
}

func round() api.Step { return api.Step{Kind: api.StepRound} }

// some: a value with these bits.
func some(n uint64) api.Value { return api.Value{Has: true, Bits: n} }

// wantNew: what New answers, without a topology beside an error.
func wantNew(t *testing.T, p api.Plan, want api.Errno) *Topo {
	t.Helper()
	x, e := New(p)
	if e != want || (x != nil) != (want == api.OK) {
		t.Fatalf("New(%v) is %v, %d, not %d", p, x, e, want)
	}
	return x
}

// state is a row of numbers, always the same ones.
type state uint64

func (s *state) below(n int) int {
	*s = *s*6364136223846793005 + 1442695040888963407
	return int(*s>>33) % n
}

// oneOf: one of a list.
func oneOf[E any](s *state, list []E) E { return list[s.below(len(list))] }

func sameMsg(a api.Msg, b api.Msg) bool {
	return a.Kind == b.Kind && a.From == b.From && a.To == b.To && a.Batch == b.Batch && a.Attempt == b.Attempt && a.Code == b.Code &&
		slices.Equal(a.Ends, b.Ends) && slices.Equal(a.Keys, b.Keys) && slices.Equal(a.Pairs, b.Pairs)
}

func sameFlights(a []api.Flight, b []api.Flight) bool {
	return slices.EqualFunc(a, b, func(x api.Flight, y api.Flight) bool { return x.Number == y.Number && sameMsg(x.Msg, y.Msg) })
}

func sameTries(a []api.Try, b []api.Try) bool {
	return slices.EqualFunc(a, b, func(x api.Try, y api.Try) bool {
		return x.Batch == y.Batch && x.Attempt == y.Attempt && x.Node == y.Node && x.Phase == y.Phase && x.Ticks == y.Ticks &&
			slices.Equal(x.From, y.From) && slices.Equal(x.To, y.To)
	})
}

func sameHeld(a []api.Held, b []api.Held) bool {
	return slices.EqualFunc(a, b, func(x api.Held, y api.Held) bool {
		return x.Batch == y.Batch && x.Attempt == y.Attempt && x.Begun == y.Begun && x.Applied == y.Applied && slices.Equal(x.Ends, y.Ends)
	})
}

func sameMark(a api.Mark, b api.Mark) bool {
	return a.Batch == b.Batch && a.Attempt == b.Attempt && slices.Equal(a.Keys, b.Keys)
}

// sameRecords: bit by bit.
func sameRecords(a []api.Record, b []api.Record) bool {
	return slices.EqualFunc(a, b, func(x api.Record, y api.Record) bool {
		return x.Key == y.Key && math.Float64bits(x.Val) == math.Float64bits(y.Val)
	})
}

// roomy is a list with spare room behind it that is filled.
func roomy[E any](list []E, with E) []E {
	return append(slices.Clone(list), slices.Repeat([]E{with}, room)...)[:len(list)]
}

// spoil writes over a list and over its spare room, and grows it.
func spoil[E any](list []E, with E) {
	whole := list[:cap(list)]
	for i := range whole {
		whole[i] = with
	}
	_ = append(list, with)
}

func fillOp() api.Op { return api.Op{Kind: api.OpLess, N: 7, X: -1e300} }

// last: the message that was sent last.
func last(t *testing.T, x *Topo) api.Flight {
	t.Helper()
	list := x.Flights()
	if len(list) == 0 {
		t.Fatal("no message is on its way")
	}
	return list[len(list)-1]
}
