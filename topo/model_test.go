package topo

import (
	"slices"
	"testing"

	"reprise/api"
	"reprise/coord"
	"reprise/disk"
	"reprise/fold"
	"reprise/journal"
	"reprise/source"
	"reprise/store"
	"reprise/worker"
)

// twin is a topology as the chapter's words have it: the layers below, and plain lists between them.
// A node that doesn't run is nil.
type twin struct {
	p       api.Plan
	src     *source.Source
	flights []api.Flight
	next    int
	done    api.Triple
	disks   map[int]*disk.Disk
	head    *coord.Coord
	hands   map[int]*worker.Worker
	stores  map[int]*store.Store
}

func newTwin(t *testing.T, p api.Plan) *twin {
	t.Helper()
	w := &twin{p: p, disks: map[int]*disk.Disk{}, hands: map[int]*worker.Worker{}, stores: map[int]*store.Store{}}
	w.src, _ = source.New(p.Parts, p.Ops)
	w.disks[0], _ = disk.New(2)
	if _, e := journal.Format(w.disks[0], p.Parts); e != api.OK {
		t.Fatalf("journal.Format is %d", e)
	}
	for node := range nodesOf(p) {
		if isStore(p, node) {
			w.disks[node], _ = disk.New(16)
			if _, e := store.Format(w.disks[node], p.Agg); e != api.OK {
				t.Fatalf("store.Format is %d", e)
			}
		}
		w.open(node)
	}
	w.done = w.head.Note().Done
	return w
}

func (w *twin) open(node int) {
	switch {
	case node == 0:
		w.head, _ = coord.Open(w.p, w.disks[0])
	case isWorker(w.p, node):
		w.hands[node], _ = worker.New(w.p, node)
	default:
		w.stores[node], _ = store.Open(w.disks[node], w.p.Agg)
	}
}

func (w *twin) fall(node int) {
	w.disks[node].Off()
	switch {
	case node == 0:
		w.head = nil
	case isWorker(w.p, node):
		w.hands[node] = nil
	default:
		w.stores[node] = nil
	}
}

func (w *twin) isUp(node int) bool {
	return node == 0 && w.head != nil || w.hands[node] != nil || w.stores[node] != nil
}

// place: where in the list the message with this number stands; below 0, if it is not on its way.
func (w *twin) place(k int) int {
	return slices.IndexFunc(w.flights, func(f api.Flight) bool { return f.Number == k })
}

// fly: whether the message found room.
func (w *twin) fly(m api.Msg) bool {
	if len(w.flights) == 4096 {
		return false
	}
	w.flights = append(w.flights, api.Flight{Number: w.next, Msg: m})
	w.next++
	return true
}

// behind: what a node's call brings.
func (w *twin) behind(node int, list []api.Msg, e api.Errno) (api.Errno, int) {
	if e == api.ErrDown {
		w.fall(node)
		return e, 0
	}
	if node == 0 {
		w.done = w.head.Note().Done
	}
	count := 0
	for _, m := range list {
		if w.fly(m) {
			count++
		}
	}
	return api.OK, count
}

func (w *twin) tick() (api.Errno, int) {
	if w.head == nil {
		return api.ErrNot, 0
	}
	list, e := w.head.Tick()
	return w.behind(0, list, e)
}

func (w *twin) arrive(k int) (api.Errno, int) {
	at := w.place(k)
	if at < 0 {
		return api.ErrNone, 0
	}
	m := w.flights[at].Msg
	w.flights = slices.Delete(w.flights, at, at+1)
	if !w.isUp(m.To) {
		return api.ErrNot, 0
	}
	if m.To == 0 {
		list, e := w.head.Take(m)
		return w.behind(0, list, e)
	}
	if isWorker(w.p, m.To) {
		list, e := w.hands[m.To].Take(w.src, m)
		return w.behind(m.To, list, e)
	}
	back := api.Msg{Kind: m.Kind + 1, From: m.To, To: m.From, Batch: m.Batch, Attempt: m.Attempt}
	e := api.OK
	switch m.Kind {
	case api.MsgBegin:
		e = w.stores[m.To].Begin(m.Batch, m.Attempt, m.Keys)
	case api.MsgApply:
		e = w.stores[m.To].Apply(m.Batch, m.Attempt, m.Pairs)
	default:
		return api.OK, 0
	}
	back.Code = int(e)
	return w.behind(m.To, []api.Msg{back}, e)
}

// play is what a step answers.
func (w *twin) play(s api.Step) api.Told {
	a := api.Told{}
	a.Code, a.Number = w.step(s)
	if s.Kind == api.StepQuery && a.Code == api.OK {
		a.Val, a.Code = w.stores[keeper(w.p, s.Rec.Key)].Query(s.Rec.Key, w.done.Batch)
	}
	if a.Code != api.OK {
		a.Number = 0
	}
	a.Batch = w.done.Batch
	return a
}

func (w *twin) step(s api.Step) (api.Errno, int) {
	at := w.place(s.N)
	switch s.Kind {
	case api.StepProduce:
		return w.src.Produce(s.Node, s.Rec), w.src.Len(s.Node)
	case api.StepSwitch:
		return w.src.Switch(s.Node, s.N != 0), 0
	case api.StepTick:
		return w.tick()
	case api.StepDeliver:
		return w.arrive(s.N)
	case api.StepDrop, api.StepCopy:
		if at < 0 {
			return api.ErrNone, 0
		}
		if s.Kind == api.StepDrop {
			w.flights = slices.Delete(w.flights, at, at+1)
			return api.OK, 0
		}
		if !w.fly(w.flights[at].Msg) {
			return api.ErrFlight, 0
		}
		return api.OK, w.next - 1
	case api.StepCut, api.StepCrash, api.StepRestart:
		return w.power(s), 0
	case api.StepQuery:
		if !w.isUp(keeper(w.p, s.Rec.Key)) {
			return api.ErrNot, 0
		}
		return api.OK, 0
	case api.StepRound:
		was := slices.Clone(w.flights)
		for _, f := range was {
			w.arrive(f.Number)
		}
		w.tick()
		return api.OK, len(was)
	}
	return api.ErrStep, 0
}

func (w *twin) power(s api.Step) api.Errno {
	there := 0 <= s.Node && s.Node < nodesOf(w.p)
	switch {
	case !there || s.Kind == api.StepCut && isWorker(w.p, s.Node):
		return api.ErrNode
	case s.Kind == api.StepRestart && w.isUp(s.Node):
		return api.ErrRuns
	case s.Kind != api.StepRestart && !w.isUp(s.Node):
		return api.ErrNot
	case s.Kind == api.StepCut && s.N < 0:
		return api.ErrArg
	}
	switch s.Kind {
	case api.StepCut:
		w.disks[s.Node].Cut(s.N)
	case api.StepCrash:
		w.fall(s.Node)
	case api.StepRestart:
		w.disks[s.Node].On()
		w.open(s.Node)
	}
	return api.OK
}

// pairing is a topology and its twin: each step is played in both, and all that can be told is held against the twin
// behind it, and against what follows out of what was told before.
type pairing struct {
	*Topo
	twin  *twin
	p     api.Plan
	quick bool // what steps answer is held to the twin, and nothing else

	// What was told last.
	batch int
	ends  []int
	marks map[int]api.Mark
	reads map[int]int
	// What the pipeline makes of the records ahead of the ends.
	table []api.Pair

	codes  map[api.Errno]int // how often a step had this code
	fenced int               // how often somebody came late to a store
}

// begun: a new topology, and its twin.
func begun(t *testing.T, p api.Plan) *pairing {
	t.Helper()
	handed := p
	handed.Ops = roomy(p.Ops, fillOp())
	x := &pairing{
		Topo: wantNew(t, handed, api.OK), twin: newTwin(t, p), p: p,
		ends: make([]int, p.Parts), marks: map[int]api.Mark{}, reads: map[int]int{}, codes: map[api.Errno]int{},
	}
	// A topology that kept the steps would have others now.
	spoil(handed.Ops, fillOp())
	x.look(t, "New")
	return x
}

// play: a step in both.
func (x *pairing) play(t *testing.T, s api.Step) api.Told {
	t.Helper()
	return x.playAs(t, s, s)
}

// playAs: the twin is told another step, which has to do the same.
func (x *pairing) playAs(t *testing.T, s api.Step, clean api.Step) api.Told {
	t.Helper()
	unchanged := x.comesLate(s)
	want := x.twin.play(clean)
	got := x.Play(s)
	if got != want {
		t.Fatalf("Play(%v) is %v, not %v", s, got, want)
	}
	x.codes[got.Code]++
	x.goesOn(t, s, got)
	if unchanged != nil {
		x.fenced++
		unchanged(t)
	}
	if !x.quick {
		x.look(t, s)
	}
	return got
}

// plays: what a step answers, beside the committed batch.
func (x *pairing) plays(t *testing.T, s api.Step, code api.Errno, number int) {
	t.Helper()
	batch, _ := x.Committed()
	if got := x.play(t, s); got.Code != code || got.Number != number || got.Val != (api.Value{}) {
		t.Fatalf("Play(%v) is %v, not %d, %d", s, got, code, number)
	} else if got.Code != api.OK && got.Batch != batch {
		t.Fatalf("Play(%v) is %v, behind batch %d", s, got, batch)
	}
}

// all plays these, whatever they answer.
func (x *pairing) all(t *testing.T, list ...api.Step) {
	t.Helper()
	for _, s := range list {
		x.play(t, s)
	}
}

// rounds plays so many of them.
func (x *pairing) rounds(t *testing.T, count int) {
	t.Helper()
	for range count {
		x.play(t, round())
	}
}

// goesOn: P20.6, of the committed batch and its ends.
func (x *pairing) goesOn(t *testing.T, s api.Step, a api.Told) {
	t.Helper()
	batch, ends := x.Committed()
	if a.Batch != batch {
		t.Fatalf("Play(%v) tells of batch %d, not of %d", s, a.Batch, batch)
	}
	if batch < x.batch || batch > x.batch+1 && s.Kind != api.StepRound {
		t.Fatalf("Play(%v): batch %d is committed behind %d", s, batch, x.batch)
	}
	if len(ends) != x.p.Parts || batch == x.batch && !slices.Equal(ends, x.ends) {
		t.Fatalf("Play(%v): the ends of batch %d are %v, those of batch %d were %v", s, batch, ends, x.batch, x.ends)
	}
	for i, end := range ends {
		if end < x.ends[i] || end > len(x.Log(i)) {
			t.Fatalf("Play(%v): the ends are %v behind %v", s, ends, x.ends)
		}
	}
	if batch != x.batch {
		x.batch, x.ends, x.table = batch, ends, reckoned(t, x.Topo, x.p)
	}
}

// ahead: whether the attempt of the message stands ahead of the mark's.
func ahead(m api.Msg, opened api.Mark) bool {
	return m.Batch < opened.Batch || m.Batch == opened.Batch && m.Attempt < opened.Attempt
}

// comesLate: P20.6, of a step by which somebody comes late to a store: what is to be asked behind it; else nil.
func (x *pairing) comesLate(s api.Step) func(t *testing.T) {
	if x.quick || s.Kind != api.StepDeliver {
		return nil
	}
	list := x.Flights()
	at := slices.IndexFunc(list, func(f api.Flight) bool { return f.Number == s.N })
	if at < 0 || list[at].Msg.Kind != api.MsgBegin && list[at].Msg.Kind != api.MsgApply {
		return nil
	}
	m := list[at].Msg
	opened, e := x.Mark(m.To)
	if e != api.OK || !ahead(m, opened) {
		return nil
	}
	cells, _ := x.Cells(m.To)
	writes := x.Writes(m.To)
	return func(t *testing.T) {
		t.Helper()
		now, _ := x.Mark(m.To)
		left, _ := x.Cells(m.To)
		if !sameMark(now, opened) || !slices.Equal(left, cells) || x.Writes(m.To) != writes {
			t.Fatalf("%v came late to a store with %v, %v, which has %v, %v now", m, opened, cells, now, left)
		}
		want := api.Msg{Kind: m.Kind + 1, From: m.To, To: m.From, Batch: m.Batch, Attempt: m.Attempt, Code: int(api.ErrFenced)}
		if back := last(t, x.Topo); !sameMsg(back.Msg, want) {
			t.Fatalf("%v came late, and %v is sent", m, back)
		}
	}
}

// reckoned: the table of all records ahead of the committed ends.
func reckoned(t *testing.T, x *Topo, p api.Plan) []api.Pair {
	t.Helper()
	_, ends := x.Committed()
	recs := []api.Record{}
	for i, end := range ends {
		recs = append(recs, x.Log(i)[:end]...)
	}
	table, _, e := fold.Batch(p.Ops, p.Agg, recs)
	if e != api.OK {
		t.Fatalf("fold.Batch is %d", e)
	}
	return table
}

// wantAnswers: P20.5, of all keys of the source and of some that are none; P20.9, of what a Query reads.
func (x *pairing) wantAnswers(t *testing.T, behind any) {
	t.Helper()
	for _, key := range append(x.Keys(), 1<<40+1, 1<<40+2) {
		want, code := fold.Find(x.table, key), api.OK
		if !x.Up(keeper(x.p, key)) {
			want, code = api.Value{}, api.ErrNot
		}
		was := x.allReads()
		v, e := x.Query(key)
		if v != want || e != code {
			t.Fatalf("behind %v Query(%d) is %v, %d, not %v, %d; committed are %d, %v", behind, key, v, e, want, code, x.batch, x.ends)
		}
		for node, count := range x.allReads() {
			most := was[node]
			if node == keeper(x.p, key) {
				most += 6
			}
			if count < was[node] || count > most {
				t.Fatalf("behind %v Query(%d) has read %d blocks of node %d", behind, key, count-was[node], node)
			}
		}
	}
}

func (x *pairing) allReads() []int {
	list := []int{}
	for node := range nodesOf(x.p) {
		list = append(list, x.Reads(node))
	}
	return list
}

// look holds all that can be told to the twin.
func (x *pairing) look(t *testing.T, behind any) {
	t.Helper()
	w := x.twin
	if batch, ends := x.Committed(); batch != w.done.Batch || !slices.Equal(ends, w.done.Cur) {
		t.Errorf("Committed() is %d, %v, not %v", batch, ends, w.done)
	}
	if !slices.Equal(x.Keys(), w.src.Keys()) || !sameFlights(x.Flights(), w.flights) || !sameTries(x.Tries(), w.head.Tries()) {
		t.Errorf("Keys(), Flights() and Tries() are %v, %v, %v, not %v, %v, %v", x.Keys(), x.Flights(), x.Tries(), w.src.Keys(), w.flights, w.head.Tries())
	}
	for part := -1; part <= x.p.Parts; part++ {
		if !sameRecords(x.Log(part), w.src.Log(part)) {
			t.Errorf("Log(%d) is %v, not %v", part, x.Log(part), w.src.Log(part))
		}
	}
	for node := -1; node <= nodesOf(x.p); node++ {
		x.lookAt(t, node)
	}
	x.wantAnswers(t, behind)
	if t.Failed() {
		t.Fatalf("behind %v", behind)
	}
}

// lookAt: a node.
func (x *pairing) lookAt(t *testing.T, node int) {
	t.Helper()
	w := x.twin
	if x.Up(node) != w.isUp(node) || !sameHeld(x.Held(node), w.hands[node].Held()) {
		t.Errorf("of node %d Up and Held are %t, %v, not %t, %v", node, x.Up(node), x.Held(node), w.isUp(node), w.hands[node].Held())
	}
	if x.Writes(node) != w.disks[node].Writes() || x.Used(node) != w.stores[node].Used() {
		t.Errorf("of node %d Writes and Used are %d, %d, not %d, %d", node, x.Writes(node), x.Used(node), w.disks[node].Writes(), w.stores[node].Used())
	}
	reads := x.Reads(node)
	if reads < x.reads[node] || w.disks[node] == nil && reads != 0 {
		t.Errorf("Reads(%d) is %d behind %d", node, reads, x.reads[node])
	}
	x.reads[node] = reads
	m, e := x.Mark(node)
	cells, f := x.Cells(node)
	if !isStore(x.p, node) || !w.isUp(node) {
		want := api.ErrNode
		if isStore(x.p, node) {
			want = api.ErrNot
		}
		if e != want || f != want || !sameMark(m, api.Mark{}) || len(cells) != 0 {
			t.Errorf("of node %d Mark and Cells are %v, %d, %v, %d, not %d", node, m, e, cells, f, want)
		}
		return
	}
	opened, _ := w.stores[node].Mark()
	kept, _ := w.stores[node].Cells()
	if e != api.OK || f != api.OK || !sameMark(m, opened) || !slices.Equal(cells, kept) {
		t.Errorf("of node %d Mark and Cells are %v, %d, %v, %d, not %v, %v", node, m, e, cells, f, opened, kept)
	}
	x.wantMark(t, node, m)
	if x.Used(node) > 7 || len(cells) > len(x.Keys()) {
		t.Errorf("node %d has %d blocks and %d cells of %d keys", node, x.Used(node), len(cells), len(x.Keys()))
	}
}

// wantMark: P20.6, of a store's mark.
func (x *pairing) wantMark(t *testing.T, node int, m api.Mark) {
	t.Helper()
	was := x.marks[node]
	if ahead(api.Msg{Batch: m.Batch, Attempt: m.Attempt}, was) {
		t.Errorf("the mark of node %d is %v behind %v", node, m, was)
	}
	if m.Batch < x.batch || m.Batch > x.batch+1 {
		t.Errorf("the mark of node %d is %v, and batch %d is committed", node, m, x.batch)
	}
	x.marks[node] = m
}
