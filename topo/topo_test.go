package topo

import (
	"math"
	"slices"
	"testing"

	"reprise/api"
)

// The chapter's three examples, and those of the whole that a topology can play.

// three: the topology of the examples with its three records.
func three(t *testing.T) *pairing {
	t.Helper()
	x := begun(t, small())
	x.plays(t, produce(0, 7, 5), api.OK, 1)
	x.plays(t, produce(0, 7, 2), api.OK, 2)
	x.plays(t, produce(0, 9, 1), api.OK, 3)
	return x
}

// upTo: a tick, and the messages 0 to k-1 have come.
func upTo(t *testing.T, k int) *pairing {
	t.Helper()
	x := three(t)
	x.plays(t, tick(), api.OK, 1)
	for i := range k {
		x.plays(t, deliver(i), api.OK, 1)
	}
	return x
}

// wantQuery: what Query answers, and the step too.
func wantQuery(t *testing.T, x *pairing, key uint64, want api.Value, code api.Errno) {
	t.Helper()
	if v, e := x.Query(key); v != want || e != code {
		t.Errorf("Query(%d) is %v, %d, not %v, %d", key, v, e, want, code)
	}
	batch, _ := x.Committed()
	if a := x.play(t, query(key)); a != (api.Told{Code: code, Batch: batch, Val: want}) {
		t.Errorf("StepQuery of %d is %v, not %v, %d", key, a, want, code)
	}
}

func wantCommitted(t *testing.T, x *pairing, batch int, ends ...int) {
	t.Helper()
	if b, list := x.Committed(); b != batch || !slices.Equal(list, ends) {
		t.Errorf("Committed() is %d, %v, not %d, %v", b, list, batch, ends)
	}
}

func TestExampleABatchIsCommitted(t *testing.T) {
	x := three(t)
	x.plays(t, tick(), api.OK, 1)
	for i, kind := range []int{
		api.MsgAssign, api.MsgReady, api.MsgGo, api.MsgBegin, api.MsgBegan, api.MsgApply, api.MsgApplied, api.MsgDone,
	} {
		list := x.Flights()
		if len(list) != 1 || list[0].Number != i || list[0].Msg.Kind != kind {
			t.Fatalf("on their way are %v", list)
		}
		wantQuery(t, x, 7, api.Value{}, api.OK)
		wantCommitted(t, x, 0, 0)
		if kind != api.MsgDone {
			x.plays(t, deliver(i), api.OK, 1)
		}
	}
	if a := x.play(t, deliver(7)); a != (api.Told{Batch: 1}) {
		t.Errorf("the last one is %v", a)
	}
	wantCommitted(t, x, 1, 2)
	wantQuery(t, x, 7, some(7), api.OK)
	wantQuery(t, x, 9, api.Value{}, api.OK)
}

func TestExampleAStoreThatCrashes(t *testing.T) {
	x := upTo(t, 5)
	x.plays(t, crash(2), api.OK, 0)
	x.plays(t, deliver(5), api.ErrNot, 0)
	wantQuery(t, x, 7, api.Value{}, api.ErrNot)
	x.plays(t, restart(2), api.OK, 0)
	wantQuery(t, x, 7, api.Value{}, api.OK)
	for range 7 {
		x.plays(t, tick(), api.OK, 0)
	}
	x.plays(t, tick(), api.OK, 1)
	if list := x.Tries(); len(list) != 1 || list[0].Batch != 1 || list[0].Attempt != 2 {
		t.Errorf("Tries() is %v", list)
	}
	// Nothing that the first attempt did counts.
	x.rounds(t, 30)
	wantCommitted(t, x, 2, 3)
	wantQuery(t, x, 7, some(7), api.OK)
	wantQuery(t, x, 9, some(1), api.OK)
}

func TestExampleAStoreWhosePowerGoes(t *testing.T) {
	x := upTo(t, 5)
	writes := x.Writes(2)
	x.plays(t, cut(2, 1), api.OK, 0)
	x.plays(t, deliver(5), api.ErrDown, 0)
	if x.Up(2) || x.Writes(2) != writes+1 {
		t.Errorf("the store is up: %t; it has done %d writes", x.Up(2), x.Writes(2)-writes)
	}
	x.plays(t, cut(1, 1), api.ErrNode, 0)
	x.plays(t, api.Step{Kind: 12}, api.ErrStep, 0)
}

// comes: the message of this kind and to this node comes.
func comes(t *testing.T, x *pairing, kind int, to int) {
	t.Helper()
	x.plays(t, deliver(byKind(t, x, kind, to)), api.OK, 1)
}

// byKind: the number of a message on its way of this kind and to this node.
func byKind(t *testing.T, x *pairing, kind int, to int) int {
	t.Helper()
	for _, f := range x.Flights() {
		if f.Msg.Kind == kind && f.Msg.To == to {
			return f.Number
		}
	}
	t.Fatalf("no message of the kind %d is on its way to %d", kind, to)
	return 0
}

// otherwise: the third example of the whole, up to where the first attempt of batch 1, of partition 0 alone, is applied at
// node 3, and the number of a copy of its MsgApply there. The keys 2 and 4 are node 3's, 1 and 3 node 4's.
func otherwise(t *testing.T) (*pairing, int) {
	t.Helper()
	p := pairwise()
	p.Window = 1
	x := begun(t, p)
	x.all(t, produce(0, 2, 10), produce(0, 1, 20), produce(1, 4, 30), produce(1, 3, 40), turn(1, 0), tick())
	hand := 2
	comes(t, x, api.MsgAssign, hand)
	comes(t, x, api.MsgReady, 0)
	x.plays(t, deliver(byKind(t, x, api.MsgGo, hand)), api.OK, 2)
	comes(t, x, api.MsgBegin, 3)
	comes(t, x, api.MsgBegan, hand)
	late := x.play(t, double(byKind(t, x, api.MsgApply, 3))).Number
	comes(t, x, api.MsgApply, 3)
	if cells, _ := x.Cells(3); len(cells) != 1 || cells[0].Key != 2 {
		t.Fatalf("the cells of node 3 are %v", cells)
	}
	x.all(t, crash(hand), turn(0, 0), turn(1, 1))
	// The copy stays on its way, the others are lost.
	for _, f := range x.Flights() {
		if f.Number != late {
			x.plays(t, drop(f.Number), api.OK, 0)
		}
	}
	return x, late
}

func TestExampleABatchThatComesAgainAsSomethingElse(t *testing.T) {
	x, late := otherwise(t)
	for range 8 {
		x.all(t, tick())
	}
	if list := x.Tries(); len(list) != 1 || list[0].Batch != 1 || list[0].Node != 1 {
		t.Fatalf("Tries() is %v", list)
	}
	for batch, _ := x.Committed(); batch == 0; batch, _ = x.Committed() {
		for _, f := range x.Flights() {
			if f.Number != late {
				x.all(t, deliver(f.Number))
			}
		}
	}
	wantCommitted(t, x, 1, 0, 2)
	for key, want := range map[uint64]api.Value{1: {}, 2: {}, 3: some(40), 4: some(30)} {
		wantQuery(t, x, key, want, api.OK)
	}
	// The fourth example: the first attempt's MsgApply comes late.
	cells, _ := x.Cells(3)
	writes := x.Writes(3)
	x.plays(t, deliver(late), api.OK, 1)
	if f := last(t, x.Topo); f.Msg.Kind != api.MsgApplied || f.Msg.Code != 130 || f.Msg.To != 2 {
		t.Errorf("the store sends %v", f)
	}
	if now, _ := x.Cells(3); !slices.Equal(now, cells) || x.Writes(3) != writes {
		t.Errorf("the cells were %v and are %v", cells, now)
	}
}

func TestExampleAMessageThatComesTwice(t *testing.T) {
	x := upTo(t, 5)
	again := x.play(t, double(5)).Number
	writes := x.Writes(2)
	x.plays(t, deliver(5), api.OK, 1)
	if x.Writes(2) != writes+2 {
		t.Errorf("the first one has written %d times", x.Writes(2)-writes)
	}
	cells, _ := x.Cells(2)
	x.plays(t, deliver(again), api.OK, 1)
	if now, _ := x.Cells(2); !slices.Equal(now, cells) || x.Writes(2) != writes+2 {
		t.Errorf("the cells were %v and are %v; %d writes", cells, now, x.Writes(2)-writes)
	}
	if f := last(t, x.Topo); f.Msg.Kind != api.MsgApplied || f.Msg.Code != 0 {
		t.Errorf("the store sends %v", f)
	}
}

func TestExampleTheNoteThatCommits(t *testing.T) {
	x := upTo(t, 7)
	x.plays(t, cut(0, 0), api.OK, 0)
	x.plays(t, deliver(7), api.ErrDown, 0)
	wantCommitted(t, x, 0, 0)
	wantQuery(t, x, 7, api.Value{}, api.OK)
	x.plays(t, restart(0), api.OK, 0)
	wantCommitted(t, x, 0, 0)
	x.plays(t, tick(), api.OK, 1)
	if list := x.Tries(); len(list) != 1 || list[0].Batch != 1 || list[0].Attempt != 2 {
		t.Errorf("Tries() is %v", list)
	}
	x.rounds(t, 30)
	wantCommitted(t, x, 2, 3)
	wantQuery(t, x, 7, some(7), api.OK)
}

func TestExampleTheGreatestOne(t *testing.T) {
	p := small()
	p.Agg = api.AggMost
	negative, infinite := math.Copysign(0, -1), math.Inf(-1)
	for _, c := range []struct {
		vals []float64
		want uint64
	}{
		{[]float64{negative, 0, infinite, math.Float64frombits(0xfff0000000000123)}, 0x7ff8000000000001},
		{[]float64{negative, 0, infinite}, 0},
		{[]float64{0, negative, infinite}, 0},
		{[]float64{infinite, negative}, 1 << 63},
	} {
		x := begun(t, p)
		for _, val := range c.vals {
			x.all(t, produce(0, 7, val))
		}
		x.rounds(t, 40)
		wantCommitted(t, x, (len(c.vals)+1)/2, len(c.vals))
		wantQuery(t, x, 7, some(c.want), api.OK)
	}
}

func TestExampleARecordIsTrapped(t *testing.T) {
	p := small()
	p.Ops = []api.Op{{Kind: api.OpInverse}, {Kind: api.OpNeed}}
	x := begun(t, p)
	x.plays(t, produce(0, 1, math.Copysign(0, -1)), api.OK, 1)
	x.plays(t, produce(0, 1, 2), api.OK, 2)
	x.rounds(t, 20)
	wantCommitted(t, x, 1, 2)
	wantQuery(t, x, 1, some(0), api.OK)
}

func TestExampleTheScriptOfRounds(t *testing.T) {
	x := begun(t, small())
	steps := []api.Step{produce(0, 7, 5), produce(0, 7, 2), produce(0, 9, 1), round(), round(), query(7)}
	steps = append(steps, slices.Repeat([]api.Step{round()}, 7)...)
	steps = append(steps, query(7), crash(2))
	want := []api.Told{
		{Number: 1}, {Number: 2}, {Number: 3}, {}, {Number: 1}, {}, {Number: 1}, {Number: 1}, {Number: 1}, {Number: 1}, {Number: 1}, {Number: 1},
		{Number: 1, Batch: 1}, {Batch: 1, Val: some(7)}, {Batch: 1},
	}
	for i, s := range steps {
		if a := x.play(t, s); a != want[i] {
			t.Errorf("step %d is %v, not %v", i, a, want[i])
		}
	}
	wantCommitted(t, x, 1, 2)
	wantQuery(t, x, 7, api.Value{}, api.ErrNot)
	wantQuery(t, x, 9, api.Value{}, api.ErrNot)
}

// P20.1

// field: one of a plan's numbers, with the least and the greatest that it may be.
type field struct {
	at    func(p *api.Plan) *int
	least int
	most  int
}

func fields() []field {
	return []field{
		{func(p *api.Plan) *int { return &p.Parts }, 1, 4},
		{func(p *api.Plan) *int { return &p.Stores }, 1, 4},
		{func(p *api.Plan) *int { return &p.Workers }, 1, 4},
		{func(p *api.Plan) *int { return &p.Agg }, 1, 4},
		{func(p *api.Plan) *int { return &p.Batch }, 1, 16},
		{func(p *api.Plan) *int { return &p.Window }, 1, 4},
		{func(p *api.Plan) *int { return &p.GiveUp }, 8, 64},
	}
}

func TestNewOfWhatIsNoPlan(t *testing.T) {
	wantNew(t, api.Plan{}, api.ErrPlan)
	nine := slices.Repeat([]api.Op{{Kind: api.OpNeg}}, 9)
	for _, f := range fields() {
		for _, n := range []int{f.least - 1, f.most + 1, -1, 256 + f.least, 1<<32 + f.least, math.MinInt, math.MaxInt} {
			p := small()
			*f.at(&p) = n
			wantNew(t, p, api.ErrPlan)
			p.Ops = nine
			wantNew(t, p, api.ErrPlan)
		}
	}
	for _, steps := range [][]api.Op{
		nine, {{}}, {{Kind: 13}}, {{Kind: api.OpNeg}, {Kind: math.MaxInt}}, {{Kind: api.OpScale, N: 2201}}, {{Kind: api.OpScale, N: -2201}},
		{{Kind: api.OpRegroup}}, {{Kind: api.OpRegroup, N: -1}},
	} {
		p := small()
		p.Ops = steps
		wantNew(t, p, api.ErrOps)
	}
}

// wantFresh: what a new topology of the plan answers to every call.
func wantFresh(t *testing.T, p api.Plan) {
	t.Helper()
	x := begun(t, p)
	wantCommitted(t, x, 0, make([]int, p.Parts)...)
	for _, n := range numbers() {
		there := 0 <= n && n < nodesOf(p)
		if x.Up(n) != there {
			t.Errorf("Up(%d) is %t", n, !there)
		}
		m, e := x.Mark(n)
		cells, f := x.Cells(n)
		want, writes, used := api.ErrNode, 0, 0
		if isStore(p, n) {
			// A book's Format writes twice, and the mark's page is put with two writes.
			want, writes, used = api.OK, 4, 1
		}
		if n == 0 {
			writes = 2
		}
		if e != want || f != want || !sameMark(m, api.Mark{}) || len(cells) != 0 {
			t.Errorf("Mark(%d) and Cells(%d) are %v, %d, %v, %d", n, n, m, e, cells, f)
		}
		if x.Writes(n) != writes || x.Used(n) != used || writes == 0 && x.Reads(n) != 0 {
			t.Errorf("Writes(%d), Used(%d) and Reads(%d) are %d, %d, %d", n, n, n, x.Writes(n), x.Used(n), x.Reads(n))
		}
		if len(x.Held(n)) != 0 || len(x.Log(n)) != 0 {
			t.Errorf("Held(%d) and Log(%d) are %v, %v", n, n, x.Held(n), x.Log(n))
		}
	}
	if len(x.Keys()) != 0 || len(x.Flights()) != 0 || len(x.Tries()) != 0 {
		t.Errorf("Keys(), Flights() and Tries() are %v, %v, %v", x.Keys(), x.Flights(), x.Tries())
	}
	if x.Reads(0) == 0 {
		t.Error("nobody has read the journal")
	}
	for _, key := range []uint64{0, 1, 2, 3, 1 << 63, math.MaxUint64} {
		wantQuery(t, x, key, api.Value{}, api.OK)
	}
	// All partitions are on, and the first message has the number 0.
	for part := range p.Parts {
		x.plays(t, produce(part, 3, 1), api.OK, 1)
	}
	x.plays(t, tick(), api.OK, 1)
	x.plays(t, deliver(0), api.OK, 1)
	if list := x.Flights(); len(list) != 1 || !slices.Equal(list[0].Msg.Ends, slices.Repeat([]int{1}, p.Parts)) {
		t.Errorf("Flights() is %v", list)
	}
}

func TestNewTopologies(t *testing.T) {
	for _, p := range plans() {
		wantFresh(t, p)
	}
	for _, f := range fields() {
		for _, n := range []int{f.least, f.most} {
			p := small()
			*f.at(&p) = n
			wantFresh(t, p)
		}
	}
}

// P20.2 to P20.4, of a nil topology

func TestANilTopology(t *testing.T) {
	var none *Topo
	for _, n := range numbers() {
		for kind := -1; kind <= 13; kind++ {
			s := api.Step{Kind: kind, Node: n, N: n, Rec: api.Record{Key: 7, Val: 5}}
			if a := none.Play(s); a != (api.Told{Code: api.ErrNil}) {
				t.Errorf("Play(%v) is %v", s, a)
			}
		}
		m, e := none.Mark(n)
		cells, f := none.Cells(n)
		v, g := none.Query(uint64(n))
		if e != api.ErrNil || f != api.ErrNil || g != api.ErrNil || !sameMark(m, api.Mark{}) || len(cells) != 0 || v != (api.Value{}) {
			t.Errorf("Mark, Cells and Query of %d are %v, %d, %v, %d, %v, %d", n, m, e, cells, f, v, g)
		}
		if none.Up(n) || len(none.Held(n)) != 0 || len(none.Log(n)) != 0 || none.Used(n) != 0 || none.Reads(n) != 0 || none.Writes(n) != 0 {
			t.Errorf("there is something of %d", n)
		}
	}
	if batch, ends := none.Committed(); batch != 0 || len(ends) != 0 {
		t.Errorf("Committed() is %d, %v", batch, ends)
	}
	if len(none.Keys()) != 0 || len(none.Flights()) != 0 || len(none.Tries()) != 0 {
		t.Error("there are keys, messages or tries")
	}
}

// P20.3

func TestCommittedWhileTheCoordinatorDoesntRun(t *testing.T) {
	x := upTo(t, 7)
	x.plays(t, deliver(7), api.OK, 0)
	for range 3 {
		x.plays(t, crash(0), api.OK, 0)
		wantCommitted(t, x, 1, 2)
		wantQuery(t, x, 7, some(7), api.OK)
		if len(x.Tries()) != 0 || x.Up(0) {
			t.Errorf("Tries() is %v, Up(0) %t", x.Tries(), x.Up(0))
		}
		// Every other answer tells of the batch too.
		x.plays(t, tick(), api.ErrNot, 0)
		x.plays(t, restart(0), api.OK, 0)
		wantCommitted(t, x, 1, 2)
		x.plays(t, tick(), api.OK, 1)
		if len(x.Tries()) != 1 {
			t.Errorf("Tries() is %v", x.Tries())
		}
	}
	// The power goes at the write of a note.
	x.plays(t, cut(0, 0), api.OK, 0)
	for x.Up(0) {
		x.play(t, round())
	}
	wantCommitted(t, x, 1, 2)
	x.all(t, restart(0))
	x.rounds(t, 30)
	wantCommitted(t, x, 2, 3)
	x.plays(t, crash(0), api.OK, 0)
	wantCommitted(t, x, 2, 3)
	wantQuery(t, x, 9, some(1), api.OK)
}

func TestQueryOfAKeyWhoseStoreDoesntRun(t *testing.T) {
	p := pairwise()
	p.Stores = 3
	x := begun(t, p)
	for key := range uint64(6) {
		x.all(t, produce(int(key%2), key, float64(key+1)))
	}
	x.rounds(t, 40)
	for node := 3; node <= 5; node++ {
		x.plays(t, crash(node), api.OK, 0)
		for key := range uint64(6) {
			if keeper(p, key) == node {
				wantQuery(t, x, key, api.Value{}, api.ErrNot)
			} else {
				wantQuery(t, x, key, some(key+1), api.OK)
			}
		}
		x.plays(t, restart(node), api.OK, 0)
	}
	// Whoever else doesn't run plays no part.
	x.all(t, crash(0), crash(1), crash(2))
	for key := range uint64(6) {
		wantQuery(t, x, key, some(key+1), api.OK)
	}
}

func TestWhatNodesHold(t *testing.T) {
	x := upTo(t, 1)
	want := []api.Held{{Batch: 1, Attempt: 1, Ends: []int{2}}}
	if got := x.Held(1); !sameHeld(got, want) {
		t.Errorf("Held(1) is %v", got)
	}
	for _, n := range []int{-1, 0, 2, 3, math.MinInt, math.MaxInt} {
		if got := x.Held(n); len(got) != 0 {
			t.Errorf("Held(%d) is %v", n, got)
		}
	}
	if got := x.Tries(); !sameTries(got, []api.Try{{Batch: 1, Attempt: 1, Node: 1, Phase: api.Reading, From: []int{0}}}) {
		t.Errorf("Tries() is %v", got)
	}
	// Whoever goes down forgets, and whoever starts knows nothing more.
	x.all(t, crash(1), crash(0))
	if len(x.Held(1)) != 0 || len(x.Tries()) != 0 {
		t.Errorf("Held(1) and Tries() are %v, %v", x.Held(1), x.Tries())
	}
	x.all(t, restart(1), restart(0))
	if len(x.Held(1)) != 0 || len(x.Tries()) != 0 {
		t.Errorf("Held(1) and Tries() are %v, %v", x.Held(1), x.Tries())
	}
}

// P20.4

func TestMarksAndCellsOfEveryKindOfNode(t *testing.T) {
	x := upTo(t, 6)
	opened := api.Mark{Batch: 1, Attempt: 1, Keys: []uint64{7}}
	if m, e := x.Mark(2); !sameMark(m, opened) || e != api.OK {
		t.Errorf("Mark(2) is %v, %d", m, e)
	}
	if cells, e := x.Cells(2); !slices.Equal(cells, []api.Cell{{Key: 7, Cur: some(7), Batch: 1}}) || e != api.OK {
		t.Errorf("Cells(2) is %v, %d", cells, e)
	}
	if x.Used(2) != 2 {
		t.Errorf("Used(2) is %d", x.Used(2))
	}
	for _, n := range []int{math.MinInt, -1, 0, 1, 3, 1<<32 + 2, math.MaxInt} {
		if m, e := x.Mark(n); !sameMark(m, api.Mark{}) || e != api.ErrNode {
			t.Errorf("Mark(%d) is %v, %d", n, m, e)
		}
		if cells, e := x.Cells(n); len(cells) != 0 || e != api.ErrNode {
			t.Errorf("Cells(%d) is %v, %d", n, cells, e)
		}
		if x.Used(n) != 0 {
			t.Errorf("Used(%d) is %d", n, x.Used(n))
		}
	}
	x.all(t, crash(2))
	if m, e := x.Mark(2); !sameMark(m, api.Mark{}) || e != api.ErrNot {
		t.Errorf("Mark(2) is %v, %d", m, e)
	}
	if cells, e := x.Cells(2); len(cells) != 0 || e != api.ErrNot || x.Used(2) != 0 {
		t.Errorf("Cells(2) is %v, %d, Used(2) %d", cells, e, x.Used(2))
	}
	x.all(t, restart(2))
	if m, e := x.Mark(2); !sameMark(m, opened) || e != api.OK || x.Used(2) != 2 {
		t.Errorf("Mark(2) is %v, %d, Used(2) %d", m, e, x.Used(2))
	}
}

func TestReadsAndWritesOfEveryKindOfNode(t *testing.T) {
	x := three(t)
	writes := func(head int, store int) {
		t.Helper()
		if x.Writes(0) != head || x.Writes(1) != 0 || x.Writes(2) != store || x.Writes(3) != 0 || x.Writes(-1) != 0 || x.Reads(1) != 0 || x.Reads(3) != 0 {
			t.Errorf("Writes are %d, %d, %d, not %d, 0, %d", x.Writes(0), x.Writes(1), x.Writes(2), head, store)
		}
	}
	writes(2, 4)
	// The attempt's number; its mark; its cells; that it is committed.
	x.all(t, tick())
	writes(3, 4)
	x.all(t, deliver(0), deliver(1), deliver(2), deliver(3))
	writes(3, 6)
	x.all(t, deliver(4), deliver(5))
	writes(3, 8)
	x.all(t, deliver(6), deliver(7))
	writes(4, 8)
	head, shelf := x.Reads(0), x.Reads(2)
	x.all(t, crash(0), crash(2))
	writes(4, 8)
	if x.Reads(0) < head || x.Reads(2) < shelf {
		t.Errorf("of nodes that don't run Reads are %d, %d, not %d, %d", x.Reads(0), x.Reads(2), head, shelf)
	}
	x.all(t, restart(0), restart(2))
	writes(4, 8)
	if x.Reads(0) <= head || x.Reads(2) <= shelf {
		t.Errorf("whoever starts reads: %d, %d behind %d, %d", x.Reads(0), x.Reads(2), head, shelf)
	}
	// A topology of its own begins anew.
	three(t)
}

func TestQueryReadsTheStoreAlone(t *testing.T) {
	x := upTo(t, 7)
	head, shelf := x.Reads(0), x.Reads(2)
	if v, e := x.Query(7); v != (api.Value{}) || e != api.OK {
		t.Errorf("Query(7) is %v, %d", v, e)
	}
	if x.Reads(0) != head || x.Reads(2) == shelf || x.Reads(2) > shelf+6 {
		t.Errorf("Query has read %d blocks of node 0, %d of node 2", x.Reads(0)-head, x.Reads(2)-shelf)
	}
	batch, _ := x.Committed()
	x.Up(0)
	x.Tries()
	if x.Reads(0) != head || batch != 0 {
		t.Errorf("whoever asks what is committed has read %d blocks", x.Reads(0)-head)
	}
}

// Rule 3

// spoilViews writes over all that a topology answers.
func spoilViews(x *Topo, p api.Plan) {
	_, ends := x.Committed()
	spoil(ends, filler)
	spoil(x.Keys(), filler)
	list := x.Flights()
	for _, f := range list {
		spoil(f.Msg.Ends, filler)
		spoil(f.Msg.Keys, filler)
		spoil(f.Msg.Pairs, api.Pair{Key: filler})
	}
	spoil(list, api.Flight{Number: filler})
	tries := x.Tries()
	for _, try := range tries {
		spoil(try.From, filler)
		spoil(try.To, filler)
	}
	spoil(tries, api.Try{Batch: filler})
	for n := range nodesOf(p) {
		spoil(x.Log(n), api.Record{Key: filler, Val: filler})
		held := x.Held(n)
		for _, h := range held {
			spoil(h.Ends, filler)
		}
		spoil(held, api.Held{Batch: filler})
		m, _ := x.Mark(n)
		spoil(m.Keys, filler)
		cells, _ := x.Cells(n)
		spoil(cells, api.Cell{Key: filler})
	}
}

func TestAnswersAreNewMemory(t *testing.T) {
	for _, p := range plans() {
		x := begun(t, p)
		s := state(5)
		for range 150 {
			spoilViews(x.Topo, p)
			x.look(t, "answers that are written over")
			x.play(t, s.someStep(x, 1))
		}
		spoilViews(x.Topo, p)
		x.look(t, "answers that are written over")
	}
}

func TestThePlanIsNeitherChangedNorKept(t *testing.T) {
	p := small()
	p.Ops = roomy([]api.Op{{Kind: api.OpNeg}, {Kind: api.OpRegroup, N: 5}}, fillOp())
	whole := slices.Clone(p.Ops[:2+room])
	x := wantNew(t, p, api.OK)
	play := func(list ...api.Step) {
		for _, s := range list {
			x.Play(s)
		}
	}
	play(produce(0, 7, 5), produce(0, 8, 2))
	if !slices.Equal(p.Ops[:2+room], whole) {
		t.Errorf("the steps have become %v", p.Ops[:2+room])
	}
	spoil(p.Ops, fillOp())
	play(slices.Repeat([]api.Step{round()}, 20)...)
	play(crash(1), restart(1), crash(0), restart(0), crash(2), restart(2), produce(0, 12, 4))
	play(slices.Repeat([]api.Step{round()}, 30)...)
	for key, want := range map[uint64]int64{2: -9, 3: -2} {
		if v, e := x.Query(key); v != some(uint64(want)) || e != api.OK {
			t.Errorf("Query(%d) is %v, %d, not %d", key, v, e, want)
		}
	}
	if !slices.Equal(x.Keys(), []uint64{2, 3}) {
		t.Errorf("Keys() is %v", x.Keys())
	}
}

func TestTwoTopologiesHaveNothingInCommon(t *testing.T) {
	a, b := begun(t, pairwise()), begun(t, pairwise())
	s := state(9)
	for range 300 {
		// Each is held to its own twin, and looked at when the other one has gone on.
		a.play(t, s.someStep(a, 0))
		b.look(t, "a step of another topology")
		b.play(t, s.someStep(b, 1))
		a.look(t, "a step of another topology")
	}
}
