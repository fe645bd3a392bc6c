package worker

import (
	"cmp"
	"math"
	"slices"
	"testing"

	"reprise/agg"
	"reprise/api"
	"reprise/msg"
	"reprise/ops"
	"reprise/source"
)

const (
	// lastCount is the greatest number of a batch and of an attempt.
	lastCount = 1 << 40
	// fillEnd and fillKey are what stands in the spare room of what is handed in.
	fillEnd = 33
	fillKey = 77
	// room is how much of it there is.
	room = 70
)

// fillPair and fillOp stand in the spare room of pairs and steps that are handed in.
func fillPair() api.Pair { return pair(fillKey, 9) }

func fillOp() api.Op { return api.Op{Kind: api.OpNeg, N: 7} }

func pair(key uint64, bits uint64) api.Pair {
	return api.Pair{Key: key, Val: api.Value{Has: true, Bits: bits}}
}

// small: the examples' plan.
func small() api.Plan {
	return api.Plan{Parts: 1, Stores: 2, Workers: 1, Agg: api.AggCount, Batch: 2, Window: 1, GiveUp: 8}
}

// of: a plan with so many workers and stores.
func of(workers int, stores int) api.Plan {
	return api.Plan{Parts: 2, Stores: stores, Workers: workers, Ops: []api.Op{{Kind: api.OpNeed}, {Kind: api.OpLess, X: 100}}, Agg: api.AggSum, Batch: 3, Window: 3, GiveUp: 20}
}

// field: one of a plan's numbers, with the least and the greatest that it may be.
type field struct {
	at    func(p *api.Plan) *int
	least int
	most  int
}

func fields() []field {
	return []field{
		{func(p *api.Plan) *int { return &p.Parts }, 1, 4},
		{func(p *api.Plan) *int { return &p.Stores }, 1, 4},
		{func(p *api.Plan) *int { return &p.Workers }, 1, 4},
		{func(p *api.Plan) *int { return &p.Agg }, 1, 4},
		{func(p *api.Plan) *int { return &p.Batch }, 1, 16},
		{func(p *api.Plan) *int { return &p.Window }, 1, 4},
		{func(p *api.Plan) *int { return &p.GiveUp }, 8, 64},
	}
}

// numbersAtFault: p with one of its numbers at fault.
func numbersAtFault(p api.Plan) []api.Plan {
	list := []api.Plan{}
	for _, f := range fields() {
		for _, x := range []int{f.least - 1, f.most + 1, -1, 256 + f.least, 1<<32 + f.least, math.MinInt, math.MaxInt} {
			wrong := p
			*f.at(&wrong) = x
			list = append(list, wrong)
		}
	}
	return append(list, api.Plan{})
}

// noPipelines: lists of steps that are none.
func noPipelines() [][]api.Op {
	return [][]api.Op{
		slices.Repeat([]api.Op{{Kind: api.OpNeg}}, 9), {{}}, {{Kind: 13}}, {{Kind: -1}}, {{Kind: api.OpNeg}, {Kind: math.MaxInt}},
		{{Kind: api.OpScale, N: 2201}}, {{Kind: api.OpScale, N: -2201}}, {{Kind: api.OpRegroup}}, {{Kind: api.OpNeg}, {Kind: api.OpRegroup, N: -1}},
	}
}

// filled: a source of p's partitions, each with its records.
func filled(t *testing.T, p api.Plan, parts ...[]api.Record) *source.Source {
	t.Helper()
	s, e := source.New(p.Parts, p.Ops)
	if e != api.OK {
		t.Fatalf("no source: %d", e)
	}
	for at, recs := range parts {
		grow(t, s, at, recs...)
	}
	return s
}

// grow puts records behind those of a partition.
func grow(t *testing.T, s *source.Source, p int, recs ...api.Record) {
	t.Helper()
	for _, r := range recs {
		if e := s.Produce(p, r); e != api.OK {
			t.Fatalf("Produce(%d, %v) is %d", p, r, e)
		}
	}
}

// rising: records with the keys from first on.
func rising(first uint64, count int) []api.Record {
	recs := []api.Record{}
	for i := range uint64(count) {
		recs = append(recs, api.Record{Key: first + i, Val: float64(first + i)})
	}
	return recs
}

// three: the examples' records.
func three() []api.Record { return []api.Record{{Key: 1, Val: 5}, {Key: 2, Val: 5}, {Key: 1, Val: 6}} }

// ofEnds, ofCode, ofKeys, ofPairs: a message to node 1; the twin sends it to its own worker.
func ofEnds(kind int, from int, batch int, attempt int, ends ...int) api.Msg {
	return api.Msg{Kind: kind, From: from, To: 1, Batch: batch, Attempt: attempt, Ends: ends}
}

func ofCode(kind int, from int, batch int, attempt int, code int) api.Msg {
	return api.Msg{Kind: kind, From: from, To: 1, Batch: batch, Attempt: attempt, Code: code}
}

func ofKeys(from int, to int, batch int, attempt int, keys ...uint64) api.Msg {
	return api.Msg{Kind: api.MsgBegin, From: from, To: to, Batch: batch, Attempt: attempt, Keys: keys}
}

func ofPairs(from int, to int, batch int, attempt int, pairs ...api.Pair) api.Msg {
	return api.Msg{Kind: api.MsgApply, From: from, To: to, Batch: batch, Attempt: attempt, Pairs: pairs}
}

func assign(batch int, attempt int, ends ...int) api.Msg {
	return ofEnds(api.MsgAssign, 0, batch, attempt, ends...)
}

func goes(batch int, attempt int, ends ...int) api.Msg {
	return ofEnds(api.MsgGo, 0, batch, attempt, ends...)
}

func began(from int, batch int, attempt int) api.Msg {
	return ofCode(api.MsgBegan, from, batch, attempt, 0)
}

func applied(from int, batch int, attempt int) api.Msg {
	return ofCode(api.MsgApplied, from, batch, attempt, 0)
}

// toWho: the message with another To.
func toWho(m api.Msg, to int) api.Msg {
	m.To = to
	return m
}

// wrongs: what is no message, whoever it is to.
func wrongs() []api.Msg {
	list := []api.Msg{
		{}, {To: 1}, ofEnds(0, 0, 1, 4, 0), ofEnds(9, 0, 1, 4, 0), ofEnds(-1, 0, 1, 4, 0), ofEnds(math.MaxInt, 0, 1, 4, 0),
		assign(1, 4), assign(1, 4, 0, 0, 0, 0, 0), assign(1, 4, -1), assign(1, 4, 257), goes(1, 4, math.MinInt), goes(1, 4),
		assign(0, 4, 0), assign(-1, 4, 0), assign(lastCount+1, 4, 0), assign(1, 0, 0), assign(1, -4, 0), assign(1, lastCount+1, 0), assign(math.MaxInt, math.MinInt, 0),
		ofEnds(api.MsgAssign, -1, 1, 4, 0), ofEnds(api.MsgAssign, 9, 1, 4, 0), began(9, 1, 4), applied(-3, 1, 4), applied(math.MaxInt, 1, 4),
		ofCode(api.MsgBegan, 2, 1, 4, -1), ofCode(api.MsgBegan, 2, 1, 4, 1001), ofCode(api.MsgApplied, 2, 1, 4, math.MinInt),
		ofKeys(0, 1, 1, 4, 2, 1), ofPairs(0, 1, 1, 4, api.Pair{Key: 1}),
	}
	coded, keyed, paired := assign(1, 9, 0), goes(1, 4, 2), began(2, 1, 4)
	coded.Code, keyed.Keys, paired.Pairs = 130, []uint64{1}, []api.Pair{pair(1, 1)}
	return append(list, coded, keyed, paired)
}

func same(a api.Msg, b api.Msg) bool {
	return a.Kind == b.Kind && a.From == b.From && a.To == b.To && a.Batch == b.Batch && a.Attempt == b.Attempt && a.Code == b.Code &&
		slices.Equal(a.Ends, b.Ends) && slices.Equal(a.Keys, b.Keys) && slices.Equal(a.Pairs, b.Pairs)
}

func sameMsgs(a []api.Msg, b []api.Msg) bool { return slices.EqualFunc(a, b, same) }

func sameHeld(a []api.Held, b []api.Held) bool {
	return slices.EqualFunc(a, b, func(x api.Held, y api.Held) bool {
		return x.Batch == y.Batch && x.Attempt == y.Attempt && slices.Equal(x.Ends, y.Ends) && x.Begun == y.Begun && x.Applied == y.Applied
	})
}

// roomy is a list with spare room behind it that is filled.
func roomy[E any](list []E, with E) []E {
	return append(slices.Clone(list), slices.Repeat([]E{with}, room)...)[:len(list)]
}

// roomyMsg is a message with such lists.
func roomyMsg(m api.Msg) api.Msg {
	m.Ends, m.Keys, m.Pairs = roomy(m.Ends, fillEnd), roomy(m.Keys, fillKey), roomy(m.Pairs, fillPair())
	return m
}

// wantRoomy tells if a list, or the spare room behind it, isn't what roomy made of old.
func wantRoomy[E comparable](t *testing.T, what string, list []E, old []E, with E) {
	t.Helper()
	if !slices.Equal(list, old) || !slices.Equal(list[len(list):len(list)+room], slices.Repeat([]E{with}, room)) {
		t.Errorf("%s: what was handed in has become %v", what, list[:len(list)+room])
	}
}

// wantRoomyMsg tells it of each list of a message.
func wantRoomyMsg(t *testing.T, what string, m api.Msg, old api.Msg) {
	t.Helper()
	wantRoomy(t, what, m.Ends, old.Ends, fillEnd)
	wantRoomy(t, what, m.Keys, old.Keys, fillKey)
	wantRoomy(t, what, m.Pairs, old.Pairs, fillPair())
}

// spoil writes over a list and over its spare room, and grows it.
func spoil[E any](list []E, with E) {
	all := list[:cap(list)]
	for i := range all {
		all[i] = with
	}
	_ = append(list, with)
}

func spoilMsg(m api.Msg) {
	spoil(m.Ends, fillEnd)
	spoil(m.Keys, fillKey)
	spoil(m.Pairs, fillPair())
}

func spoilMsgs(list []api.Msg) {
	for _, m := range list {
		spoilMsg(m)
	}
	spoil(list, assign(99, 99, fillEnd))
}

func spoilHeld(list []api.Held) {
	for _, h := range list {
		spoil(h.Ends, fillEnd)
	}
	spoil(list, api.Held{Batch: 99, Attempt: 99, Begun: true, Applied: 9})
}

// cloned: the messages of an answer in memory of the test's own.
func cloned(list []api.Msg) []api.Msg {
	out := []api.Msg{}
	for _, m := range list {
		m.Ends, m.Keys, m.Pairs = slices.Clone(m.Ends), slices.Clone(m.Keys), slices.Clone(m.Pairs)
		out = append(out, m)
	}
	return out
}

// made: New of a plan and a node that it takes.
func made(t *testing.T, p api.Plan, node int) *Worker {
	t.Helper()
	w, e := New(p, node)
	if w == nil || e != api.OK {
		t.Fatalf("New(%v, %d) is %v, %d", p, node, w, e)
	}
	return w
}

// holding is an attempt as the chapter's words have it.
type holding struct {
	batch   int
	attempt int
	ends    []int
	table   []api.Pair
	begun   bool
	done    []int // the nodes of the stores that have applied it, each once
}

// twin is a worker beside what the chapter says of it: a row of what it holds. Each call holds the one to the other, what is behind it too.
type twin struct {
	w    *Worker
	s    *source.Source
	p    api.Plan
	node int
	row  []holding
}

func newTwin(t *testing.T, p api.Plan, node int, s *source.Source) *twin {
	t.Helper()
	// The worker's plan has steps of its own, which are written over once it is made.
	given := p
	given.Ops = roomy(p.Ops, fillOp())
	w := &twin{w: made(t, given, node), s: s, p: p, node: node}
	wantRoomy(t, "New", given.Ops, p.Ops, fillOp())
	w.check(t, "New")
	spoil(given.Ops, fillOp())
	return w
}

// exampled: a twin of the examples' plan and records.
func exampled(t *testing.T) *twin {
	t.Helper()
	return newTwin(t, small(), 1, filled(t, small(), three()))
}

// check holds Held to the row, twice, the first answer written over.
func (w *twin) check(t *testing.T, what string) {
	t.Helper()
	want := []api.Held{}
	for _, h := range w.row {
		want = append(want, api.Held{Batch: h.batch, Attempt: h.attempt, Ends: h.ends, Begun: h.begun, Applied: len(h.done)})
	}
	for range 2 {
		list := w.w.Held()
		if !sameHeld(list, want) {
			t.Fatalf("behind %s Held() is %v, not %v", what, list, want)
		}
		spoilHeld(list)
	}
}

// take hands m to the worker, and holds what comes of it to the words.
func (w *twin) take(t *testing.T, m api.Msg) ([]api.Msg, api.Errno) {
	t.Helper()
	want, code := w.expect(m)
	in := roomyMsg(m)
	got, e := w.w.Take(w.s, in)
	if !sameMsgs(got, want) || e != code {
		t.Fatalf("Take(%v) is %v, %d, not %v, %d", m, got, e, want, code)
	}
	for _, out := range got {
		if !msg.Sound(out) {
			t.Fatalf("Take(%v) sends %v, which is no message", m, out)
		}
	}
	wantRoomyMsg(t, "Take", in, m)
	w.check(t, "Take")
	spoilMsg(in)
	spoilMsgs(got)
	w.check(t, "Take, its message and its answer written over")
	return want, e
}

// mine: the same, of a message to this worker whomever it was written to.
func (w *twin) mine(t *testing.T, list ...api.Msg) {
	t.Helper()
	for _, m := range list {
		if _, e := w.take(t, toWho(m, w.node)); e != api.OK {
			t.Fatalf("Take(%v) is %d", m, e)
		}
	}
}

// sends: a message to this worker makes it send this.
func (w *twin) sends(t *testing.T, m api.Msg, want ...api.Msg) {
	t.Helper()
	got, e := w.take(t, toWho(m, w.node))
	if !sameMsgs(got, want) || e != api.OK {
		t.Fatalf("Take(%v) is %v, %d, not %v", m, got, e, want)
	}
}

// expect: what the chapter says of a message, rule by rule.
func (w *twin) expect(m api.Msg) ([]api.Msg, api.Errno) {
	if !msg.Sound(m) {
		return nil, api.ErrMsg
	}
	if m.To != w.node {
		return nil, api.ErrNode
	}
	store := w.p.Workers < m.From && m.From <= w.p.Workers+w.p.Stores
	switch {
	case m.Kind == 1 && m.From == 0:
		return w.expectReady(m), api.OK
	case m.Kind == 3 && m.From == 0:
		return w.expectBegins(m), api.OK
	case m.Kind == 5 && store, m.Kind == 7 && store:
		return w.expectOfStore(m), api.OK
	}
	return nil, api.OK
}

// at: where in the row the batch is; -1, if none of its attempts is held.
func (w *twin) at(batch int) int {
	return slices.IndexFunc(w.row, func(h holding) bool { return h.batch == batch })
}

// answer: a message about what m is about.
func (w *twin) answer(kind int, to int, m api.Msg) api.Msg {
	return api.Msg{Kind: kind, From: w.node, To: to, Batch: m.Batch, Attempt: m.Attempt}
}

func (w *twin) expectReady(m api.Msg) []api.Msg {
	i := w.at(m.Batch)
	if i >= 0 && w.row[i].attempt >= m.Attempt {
		return nil
	}
	ends, recs, fit := formed(w.s, m.Ends, w.p.Batch)
	if !fit {
		return nil
	}
	if i >= 0 {
		w.row = slices.Delete(w.row, i, i+1)
	}
	w.row = append(w.row, holding{batch: m.Batch, attempt: m.Attempt, ends: ends, table: reckoned(w.p, recs)})
	slices.SortFunc(w.row, func(a holding, b holding) int { return cmp.Compare(a.batch, b.batch) })
	out := w.answer(2, 0, m)
	out.Ends = ends
	return []api.Msg{out}
}

func (w *twin) expectBegins(m api.Msg) []api.Msg {
	i := w.at(m.Batch)
	if i < 0 || w.row[i].attempt != m.Attempt || !slices.Equal(w.row[i].ends, m.Ends) || w.row[i].begun {
		return nil
	}
	w.row[i].begun = true
	list := []api.Msg{}
	for store := range w.p.Stores {
		out := w.answer(4, 1+w.p.Workers+store, m)
		for _, one := range partOf(w.p, w.row[i].table, store) {
			out.Keys = append(out.Keys, one.Key)
		}
		list = append(list, out)
	}
	return list
}

func (w *twin) expectOfStore(m api.Msg) []api.Msg {
	i := w.at(m.Batch)
	if i < 0 || w.row[i].attempt != m.Attempt || !w.row[i].begun {
		return nil
	}
	h := &w.row[i]
	switch {
	case m.Code != 0:
		w.row = slices.Delete(w.row, i, i+1)
	case m.Kind == 5:
		out := w.answer(6, m.From, m)
		out.Pairs = partOf(w.p, h.table, m.From-1-w.p.Workers)
		return []api.Msg{out}
	default:
		if !slices.Contains(h.done, m.From) {
			h.done = append(h.done, m.From)
		}
		if len(h.done) == w.p.Stores {
			out := w.answer(8, 0, m)
			out.Ends = h.ends
			return []api.Msg{out}
		}
	}
	return nil
}

// formed: what chapter 7 says of Form, partition by partition.
func formed(s *source.Source, from []int, most int) ([]int, []api.Record, bool) {
	if len(from) != s.Parts() {
		return nil, nil, false
	}
	ends, recs := []int{}, []api.Record{}
	for p, at := range from {
		log := s.Log(p)
		if at > len(log) {
			return nil, nil, false
		}
		end := at
		for s.Up(p) && end < len(log) && end < at+most {
			recs = append(recs, log[end])
			end++
		}
		ends = append(ends, end)
	}
	return ends, recs, true
}

// reckoned: the table of the records that the plan's pipeline keeps, one behind the other.
func reckoned(p api.Plan, recs []api.Record) []api.Pair {
	table := []api.Pair{}
	for _, r := range recs {
		out, fate := ops.Run(p.Ops, r)
		if fate != api.Kept {
			continue
		}
		at := slices.IndexFunc(table, func(one api.Pair) bool { return one.Key == out.Key })
		if at < 0 {
			table = append(table, api.Pair{Key: out.Key, Val: agg.Of(p.Agg, out.Val)})
			continue
		}
		table[at].Val = agg.Merge(p.Agg, table[at].Val, agg.Of(p.Agg, out.Val))
	}
	slices.SortFunc(table, func(a api.Pair, b api.Pair) int { return cmp.Compare(a.Key, b.Key) })
	return table
}

// partOf: the pairs of a table whose keys this store keeps, stores counted from 0.
func partOf(p api.Plan, table []api.Pair, store int) []api.Pair {
	return slices.DeleteFunc(slices.Clone(table), func(one api.Pair) bool { return one.Key%uint64(p.Stores) != uint64(store) })
}

// orders: all orders of the numbers below n.
func orders(n int) [][]int {
	if n == 0 {
		return [][]int{{}}
	}
	list := [][]int{}
	for _, order := range orders(n - 1) {
		for at := range n {
			list = append(list, slices.Insert(slices.Clone(order), at, n-1))
		}
	}
	return list
}

// dice: numbers that look like chance, always the same ones.
type dice struct{ state uint64 }

func (d *dice) next() uint64 {
	d.state = d.state*6364136223846793005 + 1442695040888963407
	return d.state ^ d.state>>29
}

func (d *dice) below(n int) int { return int(d.next() >> 8 % uint64(n)) }
