package worker

import (
	"math"
	"slices"
	"testing"

	"reprise/api"
	"reprise/source"
)

// ready and done: what worker 1 sends to the coordinator.
func ready(batch int, attempt int, ends ...int) api.Msg {
	return toWho(ofEnds(api.MsgReady, 1, batch, attempt, ends...), 0)
}

func done(batch int, attempt int, ends ...int) api.Msg {
	return toWho(ofEnds(api.MsgDone, 1, batch, attempt, ends...), 0)
}

// The three examples.

func TestExampleAssign(t *testing.T) {
	w := exampled(t)
	w.sends(t, assign(1, 4, 0), ready(1, 4, 2))
	w.sends(t, assign(1, 4, 0))
	w.sends(t, assign(1, 3, 0))
	w.sends(t, assign(1, 5, 0), ready(1, 5, 2))
}

func TestExampleGo(t *testing.T) {
	w := exampled(t)
	w.mine(t, assign(1, 4, 0))
	w.sends(t, goes(1, 4, 1))
	w.sends(t, goes(1, 4, 2), ofKeys(1, 2, 1, 4, 2), ofKeys(1, 3, 1, 4, 1))
	w.sends(t, goes(1, 4, 2))
}

func TestExampleStores(t *testing.T) {
	w := exampled(t)
	w.mine(t, assign(1, 4, 0), goes(1, 4, 2))
	w.sends(t, began(3, 1, 4), ofPairs(1, 3, 1, 4, pair(1, 1)))
	w.sends(t, applied(3, 1, 4))
	w.sends(t, applied(2, 1, 4), done(1, 4, 2))
	w.sends(t, ofCode(api.MsgBegan, 2, 1, 4, 130))
	if list := w.w.Held(); len(list) != 0 {
		t.Errorf("Held() is %v", list)
	}
}

// P17.1: New.

func TestNewOfEachNode(t *testing.T) {
	for workers := 1; workers <= 4; workers++ {
		for stores := 1; stores <= 4; stores++ {
			p := of(workers, stores)
			for node := 1; node <= workers; node++ {
				w := newTwin(t, p, node, filled(t, p))
				if len(w.w.Held()) != 0 {
					t.Errorf("New(%v, %d) holds %v", p, node, w.w.Held())
				}
			}
			for _, node := range []int{
				0, -1, -2, workers + 1, workers + stores, workers + stores + 1, 8, 9, 256 + 1, 1<<16 + 1, 1<<32 + 1,
				math.MinInt, math.MinInt + 1, math.MaxInt - 1, math.MaxInt,
			} {
				if w, e := New(p, node); w != nil || e != api.ErrNode {
					t.Errorf("New with %d workers of %d is %v, %d", workers, node, w, e)
				}
			}
		}
	}
}

// TestNewOfWhatIsNoPlan: the plan's error, whatever the node is.
func TestNewOfWhatIsNoPlan(t *testing.T) {
	for _, node := range []int{1, 2, 0, 3, -1, 9, math.MinInt, math.MaxInt} {
		for _, p := range numbersAtFault(of(2, 2)) {
			if w, e := New(p, node); w != nil || e != api.ErrPlan {
				t.Errorf("New(%v, %d) is %v, %d", p, node, w, e)
			}
		}
		for _, steps := range noPipelines() {
			p := of(2, 2)
			p.Ops = steps
			if w, e := New(p, node); w != nil || e != api.ErrOps {
				t.Errorf("New(%v, %d) is %v, %d", p, node, w, e)
			}
			for _, both := range numbersAtFault(p)[:12] {
				if w, e := New(both, node); w != nil || e != api.ErrPlan {
					t.Errorf("New(%v, %d) is %v, %d", both, node, w, e)
				}
			}
		}
	}
}

func TestNewHoldsNothing(t *testing.T) {
	w := exampled(t)
	for _, m := range []api.Msg{goes(1, 4, 2), goes(1, 1, 0), began(2, 1, 4), applied(3, 1, 4), ofCode(api.MsgBegan, 2, 1, 4, 130)} {
		w.sends(t, m)
	}
}

// P17.2: the errors of Take.

// TestTakeOfNil: ErrNil ahead of all others.
func TestTakeOfNil(t *testing.T) {
	var none *Worker
	w := exampled(t)
	w.mine(t, assign(1, 4, 0))
	list := append(wrongs(), assign(1, 9, 0), goes(1, 4, 2), toWho(assign(1, 9, 0), 2), toWho(goes(1, 4, 2), 0))
	for _, m := range list {
		for _, one := range []struct {
			w *Worker
			s *source.Source
		}{{none, w.s}, {w.w, nil}, {none, nil}} {
			in := roomyMsg(m)
			if got, e := one.w.Take(one.s, in); len(got) != 0 || e != api.ErrNil {
				t.Errorf("Take(%v) is %v, %d", m, got, e)
			}
			wantRoomyMsg(t, "Take", in, m)
			w.check(t, "Take with ErrNil")
		}
	}
	w.sends(t, goes(1, 4, 2), ofKeys(1, 2, 1, 4, 2), ofKeys(1, 3, 1, 4, 1))
	for _, m := range []api.Msg{began(2, 1, 4), applied(2, 1, 4), ofCode(api.MsgBegan, 2, 1, 4, 130), goes(1, 4, 2)} {
		if got, e := w.w.Take(nil, m); len(got) != 0 || e != api.ErrNil {
			t.Errorf("Take(%v) without a source is %v, %d", m, got, e)
		}
		w.check(t, "Take with ErrNil")
	}
}

// inEachState calls with a worker that holds nothing, one that holds an attempt, one whose attempt is begun, with and without a store that has applied it, and one whose attempt all have applied.
func inEachState(t *testing.T, call func(w *twin)) {
	t.Helper()
	row := []api.Msg{assign(1, 4, 0), goes(1, 4, 2), applied(3, 1, 4), applied(2, 1, 4)}
	for count := range len(row) + 1 {
		w := exampled(t)
		w.mine(t, row[:count]...)
		call(w)
		// What comes behind it is as if nothing had been: the rest of the row tells.
		w.mine(t, row[count:]...)
		w.mine(t, began(2, 1, 4), began(3, 1, 4), applied(2, 1, 4))
	}
}

func TestTakeOfWhatIsNoMessage(t *testing.T) {
	inEachState(t, func(w *twin) {
		for _, m := range wrongs() {
			for _, to := range []int{1, 0, 2, 8} {
				if _, e := w.take(t, toWho(m, to)); e != api.ErrMsg {
					t.Errorf("Take(%v) to %d is %d", m, to, e)
				}
			}
		}
		// A To that no node has is a fault of the message, ahead of being another node's.
		for _, m := range []api.Msg{assign(1, 9, 0), goes(1, 4, 2), began(2, 1, 4), applied(2, 1, 4)} {
			for _, to := range []int{-1, 9, 256 + 1, 1<<32 + 1, math.MinInt, math.MaxInt} {
				if _, e := w.take(t, toWho(m, to)); e != api.ErrMsg {
					t.Errorf("Take(%v) to %d is %d", m, to, e)
				}
			}
		}
	})
}

func TestTakeOfAnotherNodesMessage(t *testing.T) {
	inEachState(t, func(w *twin) {
		for _, m := range []api.Msg{
			assign(1, 9, 0), assign(2, 1, 0), goes(1, 4, 2), began(2, 1, 4), applied(2, 1, 4), applied(3, 1, 4),
			ofCode(api.MsgBegan, 2, 1, 4, 130), ofCode(api.MsgApplied, 3, 1, 4, 130), ofKeys(1, 2, 1, 4, 1), done(1, 4, 2),
		} {
			for _, to := range []int{0, 2, 3, 4, 8} {
				if got, e := w.take(t, toWho(m, to)); len(got) != 0 || e != api.ErrNode {
					t.Errorf("Take(%v) to %d is %v, %d", m, to, got, e)
				}
			}
		}
	})
	p := of(4, 4)
	for node := 1; node <= 4; node++ {
		w := newTwin(t, p, node, filled(t, p, rising(1, 5)))
		for to := range 9 {
			want := api.ErrNode
			if to == node {
				want = api.OK
			}
			if _, e := w.take(t, toWho(assign(to+1, 4, 0, 0), to)); e != want {
				t.Errorf("worker %d takes a message to %d with %d", node, to, e)
			}
		}
	}
}

// P17.2: MsgAssign.

func TestAssignFromEachNode(t *testing.T) {
	for from := range 9 {
		w := exampled(t)
		m := assign(1, 4, 0)
		m.From = from
		if from == 0 {
			w.sends(t, m, ready(1, 4, 2))
		} else {
			w.sends(t, m)
		}
		m.Attempt = 5
		w.mine(t, assign(1, 4, 0), m, goes(1, 5, 2), goes(1, 4, 2))
	}
}

// TestAssignOfEachNumber: a batch's attempt is held against the one of this batch alone.
func TestAssignOfEachNumber(t *testing.T) {
	numbers := []int{1, 2, 3, 4, 5, 255, 256, 257, 1 << 32, 1<<32 + 1, lastCount - 1, lastCount}
	for _, old := range numbers {
		for _, next := range numbers {
			w := exampled(t)
			w.sends(t, assign(7, old, 0), ready(7, old, 2))
			if next > old {
				w.sends(t, assign(7, next, 1), ready(7, next, 3))
			} else {
				w.sends(t, assign(7, next, 1))
			}
			w.sends(t, assign(6, next, 1), ready(6, next, 3))
			w.sends(t, assign(8, next, 1), ready(8, next, 3))
			w.sends(t, goes(7, max(old, next), w.row[1].ends...), ofKeys(1, 2, 7, max(old, next), keysAt(w, 0)...), ofKeys(1, 3, 7, max(old, next), keysAt(w, 1)...))
		}
	}
}

// keysAt: the keys of the middle batch that this store gets.
func keysAt(w *twin, store int) []uint64 {
	keys := []uint64{}
	for _, one := range partOf(w.p, w.row[1].table, store) {
		keys = append(keys, one.Key)
	}
	return keys
}

// TestAssignTakesThePlace: whatever became of the attempt before it, the new one isn't begun, and no store has applied it.
func TestAssignTakesThePlace(t *testing.T) {
	inEachState(t, func(w *twin) {
		w.sends(t, assign(1, 6, 1), ready(1, 6, 3))
		if list := w.w.Held(); !sameHeld(list, []api.Held{{Batch: 1, Attempt: 6, Ends: []int{3}}}) {
			t.Errorf("Held() is %v", list)
		}
		for _, m := range []api.Msg{goes(1, 4, 2), goes(1, 4, 3), began(2, 1, 4), applied(2, 1, 4), applied(3, 1, 4), ofCode(api.MsgBegan, 2, 1, 4, 130), began(2, 1, 6), applied(3, 1, 6)} {
			w.sends(t, m)
		}
		w.sends(t, goes(1, 6, 3), ofKeys(1, 2, 1, 6, 2), ofKeys(1, 3, 1, 6, 1))
		w.sends(t, began(3, 1, 6), ofPairs(1, 3, 1, 6, pair(1, 1)))
		w.sends(t, applied(3, 1, 6))
		w.sends(t, applied(2, 1, 6), done(1, 6, 3))
	})
}

// TestAssignOfEndsThatDoNotFit: nothing comes of it, and the attempt that is held stays.
func TestAssignOfEndsThatDoNotFit(t *testing.T) {
	p := of(1, 2)
	s := filled(t, p, rising(1, 5), rising(3, 2))
	row := []api.Msg{assign(1, 4, 0, 0), goes(1, 4, 3, 2), applied(2, 1, 4), applied(3, 1, 4)}
	for count := range len(row) + 1 {
		w := newTwin(t, p, 1, s)
		w.mine(t, row[:count]...)
		for _, ends := range [][]int{{0}, {5}, {0, 0, 0}, {0, 0, 0, 0}, {6, 0}, {0, 3}, {6, 3}, {256, 256}, {0, 256}, {5, 2, 0}} {
			w.sends(t, assign(1, 5, ends...))
			w.sends(t, assign(2, 1, ends...))
		}
		if len(w.w.Held()) != min(count, 1) {
			t.Errorf("Held() is %v", w.w.Held())
		}
		w.mine(t, row[count:]...)
		w.sends(t, assign(1, 5, 5, 2), ready(1, 5, 5, 2))
	}
}

func TestAssignOfEndsThatFit(t *testing.T) {
	for most := 1; most <= 16; most++ {
		p := of(1, 3)
		p.Batch = most
		s := filled(t, p, rising(0, 20), rising(5, 3))
		w := newTwin(t, p, 1, s)
		for a := range 21 {
			for b := range 4 {
				w.sends(t, assign(1, 1+4*a+b, a, b), ready(1, 1+4*a+b, min(a+most, 20), min(b+most, 3)))
			}
		}
	}
}

// TestAssignOfASourceAtItsEnd: the greatest ends that there are.
func TestAssignOfASourceAtItsEnd(t *testing.T) {
	p := of(1, 1)
	p.Parts, p.Ops, p.Batch = 4, nil, 16
	s := filled(t, p)
	for part := range 4 {
		for i := range 256 {
			grow(t, s, part, api.Record{Key: uint64(64 - i%64), Val: float64(i)})
		}
	}
	w := newTwin(t, p, 1, s)
	w.sends(t, assign(1, 1, 256, 256, 256, 256), ready(1, 1, 256, 256, 256, 256))
	w.sends(t, assign(1, 2, 240, 241, 200, 255), ready(1, 2, 256, 256, 216, 256))
	w.sends(t, assign(2, 1, 0, 16, 32, 48), ready(2, 1, 16, 32, 48, 64))
	got, _ := w.take(t, goes(2, 1, 16, 32, 48, 64))
	if len(got) != 1 || len(got[0].Keys) != 64 {
		t.Errorf("the greatest batch begins with %v", got)
	}
	w.mine(t, began(2, 2, 1), applied(2, 2, 1))
}

// TestAttemptsWithoutRecords: they go their way as all others, with no keys and no pairs.
func TestAttemptsWithoutRecords(t *testing.T) {
	traps := of(1, 2)
	drops := of(1, 2)
	drops.Ops = []api.Op{{Kind: api.OpLess, X: math.Inf(-1)}}
	for _, one := range []struct {
		name string
		p    api.Plan
		recs []api.Record
		off  bool
		from int
		to   int
	}{
		{"at the end", of(1, 2), rising(1, 4), false, 4, 4},
		{"off", of(1, 2), rising(1, 4), true, 1, 1},
		{"of no records at all", of(1, 2), nil, false, 0, 0},
		{"all are trapped", traps, []api.Record{{Key: 1, Val: math.NaN()}, {Key: 2, Val: math.Inf(1)}}, false, 0, 2},
		{"all are dropped", drops, rising(1, 2), false, 0, 2},
	} {
		s := filled(t, one.p, one.recs)
		s.Switch(0, !one.off)
		w := newTwin(t, one.p, 1, s)
		w.sends(t, assign(3, 8, one.from, 0), ready(3, 8, one.to, 0))
		w.sends(t, goes(3, 8, one.to, 0), ofKeys(1, 2, 3, 8), ofKeys(1, 3, 3, 8))
		w.sends(t, began(2, 3, 8), ofPairs(1, 2, 3, 8))
		w.sends(t, applied(2, 3, 8))
		w.sends(t, applied(3, 3, 8), done(3, 8, one.to, 0))
	}
}

// TestRecordsThatTrapAndAreDropped: they count for the ends, and for nothing else.
func TestRecordsThatTrapAndAreDropped(t *testing.T) {
	p := small()
	p.Ops, p.Batch = []api.Op{{Kind: api.OpNeed}, {Kind: api.OpLess, X: 10}, {Kind: api.OpRegroup, N: 5}}, 6
	recs := []api.Record{{Key: 7, Val: math.NaN()}, {Key: 1, Val: 2}, {Key: 3, Val: 10}, {Key: 6, Val: math.Inf(-1)}, {Key: 8, Val: 3}, {Key: 11, Val: 4}, {Key: 4, Val: 1}}
	w := newTwin(t, p, 1, filled(t, p, recs))
	w.sends(t, assign(1, 1, 0), ready(1, 1, 6))
	w.sends(t, goes(1, 1, 6), ofKeys(1, 2, 1, 1), ofKeys(1, 3, 1, 1, 1, 3))
	w.sends(t, began(3, 1, 1), ofPairs(1, 3, 1, 1, pair(1, 2), pair(3, 1)))
	w.sends(t, began(2, 1, 1), ofPairs(1, 2, 1, 1))
}

// TestEachAggregate: the table is the plan's, by its Agg and its Ops.
func TestEachAggregate(t *testing.T) {
	recs := []api.Record{{Key: 2, Val: 5}, {Key: 2, Val: -3}, {Key: 2, Val: 1}}
	for kind, bits := range map[int]uint64{
		api.AggCount: 3, api.AggSum: math.MaxUint64 - 2, api.AggLeast: math.Float64bits(-5), api.AggMost: math.Float64bits(3),
	} {
		p := small()
		p.Agg, p.Ops, p.Batch, p.Stores = kind, []api.Op{{Kind: api.OpNeg}}, 3, 1
		w := newTwin(t, p, 1, filled(t, p, recs))
		w.sends(t, assign(1, 1, 0), ready(1, 1, 3))
		w.sends(t, goes(1, 1, 3), ofKeys(1, 2, 1, 1, 2))
		w.sends(t, began(2, 1, 1), ofPairs(1, 2, 1, 1, pair(2, bits)))
	}
}

// TestASourceThatGrows: each attempt is what was there when it was assigned.
func TestASourceThatGrows(t *testing.T) {
	p := of(1, 1)
	s := filled(t, p, rising(1, 1))
	w := newTwin(t, p, 1, s)
	w.sends(t, assign(1, 1, 0, 0), ready(1, 1, 1, 0))
	grow(t, s, 0, rising(2, 5)...)
	grow(t, s, 1, rising(9, 1)...)
	w.sends(t, assign(1, 1, 0, 0))
	w.sends(t, assign(2, 1, 0, 0), ready(2, 1, 3, 1))
	w.sends(t, goes(1, 1, 3, 1))
	w.sends(t, goes(1, 1, 1, 0), ofKeys(1, 2, 1, 1, 1))
	s.Switch(0, false)
	w.sends(t, assign(1, 2, 0, 0), ready(1, 2, 0, 1))
	s.Switch(0, true)
	s.Switch(1, false)
	w.sends(t, assign(1, 3, 1, 0), ready(1, 3, 4, 0))
	grow(t, s, 0, rising(20, 3)...)
	w.sends(t, goes(1, 3, 4, 0), ofKeys(1, 2, 1, 3, 2, 3, 4))
	w.sends(t, goes(2, 1, 3, 1), ofKeys(1, 2, 2, 1, 1, 2, 3, 9))
	w.sends(t, began(2, 1, 3), ofPairs(1, 2, 1, 3, pair(2, 2), pair(3, 3), pair(4, 4)))
}

// TestAnotherSource: MsgAssign reads the one that is handed in with it; the others read none.
func TestAnotherSource(t *testing.T) {
	w := exampled(t)
	old := w.s
	w.mine(t, assign(1, 4, 0))
	wide := of(1, 1)
	w.s = filled(t, wide, rising(5, 3), rising(7, 3))
	w.sends(t, goes(1, 4, 2), ofKeys(1, 2, 1, 4, 2), ofKeys(1, 3, 1, 4, 1))
	w.sends(t, began(2, 1, 4), ofPairs(1, 2, 1, 4, pair(2, 1)))
	w.sends(t, assign(2, 1, 0))
	w.sends(t, assign(2, 1, 0, 1), ready(2, 1, 2, 3))
	w.s = old
	w.sends(t, goes(2, 1, 2, 3), ofKeys(1, 2, 2, 1, 6, 8), ofKeys(1, 3, 2, 1, 5, 9))
}

// P17.2: MsgGo.

func TestGoFromEachNode(t *testing.T) {
	for from := 1; from < 9; from++ {
		w := exampled(t)
		w.mine(t, assign(1, 4, 0))
		m := goes(1, 4, 2)
		m.From = from
		w.sends(t, m)
		w.sends(t, began(2, 1, 4))
		w.sends(t, goes(1, 4, 2), ofKeys(1, 2, 1, 4, 2), ofKeys(1, 3, 1, 4, 1))
		w.sends(t, m)
	}
}

func TestGoOfAnAttemptThatIsNotHeld(t *testing.T) {
	w := exampled(t)
	w.mine(t, assign(2, 4, 0))
	for _, m := range []api.Msg{
		goes(1, 4, 2), goes(3, 4, 2), goes(2, 3, 2), goes(2, 5, 2), goes(4, 2, 2), goes(2, lastCount, 2), goes(lastCount, 4, 2), goes(2+1<<32, 4, 2), goes(2, 4+1<<32, 2),
	} {
		w.sends(t, m)
	}
	w.sends(t, goes(2, 4, 2), ofKeys(1, 2, 2, 4, 2), ofKeys(1, 3, 2, 4, 1))
}

func TestGoWithOtherEnds(t *testing.T) {
	p := of(1, 1)
	w := newTwin(t, p, 1, filled(t, p, rising(1, 9), rising(1, 9)))
	w.mine(t, assign(1, 4, 1, 2))
	for _, ends := range [][]int{{4}, {4, 5, 0}, {4, 5, 5}, {1, 2}, {4, 4}, {4, 6}, {3, 5}, {5, 5}, {5, 4}, {0, 0}, {256, 256}, {4, 5, 4, 5}, {5}} {
		w.sends(t, goes(1, 4, ends...))
	}
	w.sends(t, goes(1, 4, 4, 5), ofKeys(1, 2, 1, 4, 2, 3, 4, 5))
	w.sends(t, goes(1, 4, 4, 5))
}

// TestGoOnce: also when stores have begun or applied it.
func TestGoOnce(t *testing.T) {
	w := exampled(t)
	w.mine(t, assign(1, 4, 0), goes(1, 4, 2))
	for _, m := range []api.Msg{goes(1, 4, 2), began(2, 1, 4), applied(2, 1, 4), applied(3, 1, 4)} {
		w.mine(t, m)
		w.sends(t, goes(1, 4, 2))
	}
	w.sends(t, assign(1, 4, 0))
	w.sends(t, goes(1, 4, 2))
}

// TestGoWithEachNumberOfStores: a message to each store in the order of their nodes, also to one that gets no pairs.
func TestGoWithEachNumberOfStores(t *testing.T) {
	for stores := 1; stores <= 4; stores++ {
		for workers := 1; workers <= 4; workers++ {
			for _, keys := range [][]uint64{{}, {0}, {1}, {2}, {3}, {3, 0}, {7, 2, 3, 1, 2, 11}, {math.MaxUint64, 1 << 63}} {
				p := of(workers, stores)
				p.Batch = 16
				recs := []api.Record{}
				for _, key := range keys {
					recs = append(recs, api.Record{Key: key, Val: 1})
				}
				w := newTwin(t, p, workers, filled(t, p, nil, recs))
				w.mine(t, assign(1, 1, 0, 0))
				got, _ := w.take(t, toWho(goes(1, 1, 0, len(keys)), workers))
				for i, m := range got {
					if m.Kind != api.MsgBegin || m.From != workers || m.To != 1+workers+i {
						t.Errorf("message %d is %v", i, m)
					}
				}
				if len(got) != stores {
					t.Errorf("%d stores get %v", stores, got)
				}
				for node := 1 + workers; node <= workers+stores; node++ {
					w.mine(t, began(node, 1, 1), applied(node, 1, 1))
				}
			}
		}
	}
}

// P17.2: MsgBegan and MsgApplied.

// TestOfStoreFromEachNode: the coordinator, the workers and nodes that there aren't are no stores.
func TestOfStoreFromEachNode(t *testing.T) {
	p := of(2, 2)
	for from := range 9 {
		for _, code := range []int{0, 1, 130} {
			for _, kind := range []int{api.MsgBegan, api.MsgApplied} {
				w := newTwin(t, p, 2, filled(t, p, rising(1, 3)))
				w.mine(t, assign(1, 4, 0, 0), goes(1, 4, 3, 0), ofCode(kind, from, 1, 4, code))
				if store := from == 3 || from == 4; len(w.w.Held()) == 0 != (store && code != 0) {
					t.Errorf("kind %d from %d with %d: Held() is %v", kind, from, code, w.w.Held())
				}
				w.mine(t, applied(3, 1, 4), applied(4, 1, 4), began(3, 1, 4))
			}
		}
	}
}

func TestBeganAsOftenAsItComes(t *testing.T) {
	w := exampled(t)
	w.mine(t, assign(1, 4, 0), goes(1, 4, 2))
	for range 3 {
		w.sends(t, began(2, 1, 4), ofPairs(1, 2, 1, 4, pair(2, 1)))
		w.sends(t, began(3, 1, 4), ofPairs(1, 3, 1, 4, pair(1, 1)))
	}
	w.sends(t, applied(2, 1, 4))
	w.sends(t, began(2, 1, 4), ofPairs(1, 2, 1, 4, pair(2, 1)))
	w.sends(t, applied(3, 1, 4), done(1, 4, 2))
	w.sends(t, began(2, 1, 4), ofPairs(1, 2, 1, 4, pair(2, 1)))
}

func TestOfStoreAboutWhatIsNotHeldOrNotBegun(t *testing.T) {
	for _, kind := range []int{api.MsgBegan, api.MsgApplied} {
		for _, code := range []int{0, 1, 130, 1000} {
			w := exampled(t)
			w.sends(t, ofCode(kind, 2, 1, 4, code))
			w.mine(t, assign(1, 4, 0), assign(2, 6, 0), goes(2, 6, 2))
			for _, from := range []int{2, 3} {
				w.sends(t, ofCode(kind, from, 1, 4, code))
				for _, other := range []api.Msg{
					ofCode(kind, from, 1, 3, code), ofCode(kind, from, 1, 5, code), ofCode(kind, from, 2, 4, code), ofCode(kind, from, 2, 5, code),
					ofCode(kind, from, 2, 7, code), ofCode(kind, from, 3, 6, code), ofCode(kind, from, 1, 6, code), ofCode(kind, from, lastCount, lastCount, code),
				} {
					w.sends(t, other)
				}
			}
			if list := w.w.Held(); len(list) != 2 || list[0].Begun || list[0].Applied != 0 || list[1].Applied != 0 {
				t.Errorf("kind %d with %d: Held() is %v", kind, code, list)
			}
			w.mine(t, goes(1, 4, 2))
			w.sends(t, applied(2, 1, 4))
			w.sends(t, applied(3, 1, 4), done(1, 4, 2))
			w.sends(t, applied(3, 2, 6))
			w.sends(t, applied(2, 2, 6), done(2, 6, 2))
		}
	}
}

// TestACodeEndsTheAttempt: it alone is held no longer, at whatever moment the code comes; the same number may be assigned again.
func TestACodeEndsTheAttempt(t *testing.T) {
	for _, kind := range []int{api.MsgBegan, api.MsgApplied} {
		for _, code := range []int{1, 2, 80, 130, 131, 256, 1000} {
			for _, from := range []int{2, 3} {
				for _, ahead := range [][]api.Msg{{}, {began(2, 1, 4)}, {applied(2, 1, 4)}, {applied(3, 1, 4)}, {applied(2, 1, 4), applied(3, 1, 4)}} {
					w := exampled(t)
					w.mine(t, assign(1, 4, 0), assign(2, 4, 2), goes(1, 4, 2), goes(2, 4, 3))
					w.mine(t, ahead...)
					w.sends(t, ofCode(kind, from, 1, 4, code))
					if list := w.w.Held(); len(list) != 1 || list[0].Batch != 2 {
						t.Errorf("Held() is %v", list)
					}
					for _, m := range []api.Msg{ofCode(kind, from, 1, 4, code), began(2, 1, 4), applied(2, 1, 4), applied(3, 1, 4), goes(1, 4, 2)} {
						w.sends(t, m)
					}
					w.sends(t, began(3, 2, 4), ofPairs(1, 3, 2, 4, pair(1, 1)))
					w.sends(t, assign(1, 4, 0), ready(1, 4, 2))
					w.sends(t, goes(1, 4, 2), ofKeys(1, 2, 1, 4, 2), ofKeys(1, 3, 1, 4, 1))
					w.sends(t, applied(2, 1, 4))
				}
			}
		}
	}
}

// TestDoneJustWhenAllHaveApplied: in whatever order, and however often a store says so before.
func TestDoneJustWhenAllHaveApplied(t *testing.T) {
	for stores := 1; stores <= 4; stores++ {
		p := of(2, stores)
		s := filled(t, p, rising(1, 3), rising(2, 1))
		for _, order := range orders(stores) {
			w := newTwin(t, p, 1, s)
			w.mine(t, assign(5, 4, 0, 0), goes(5, 4, 3, 1))
			for i, store := range order {
				for range 3 {
					want := []api.Msg{}
					if i == stores-1 {
						want = append(want, done(5, 4, 3, 1))
					}
					w.sends(t, applied(3+store, 5, 4), want...)
					if list := w.w.Held(); len(list) != 1 || list[0].Applied != i+1 {
						t.Errorf("Held() is %v", list)
					}
				}
			}
			for store := range stores {
				w.sends(t, applied(3+store, 5, 4), done(5, 4, 3, 1))
			}
		}
	}
}

// TestAppliedWithoutBegan: the chapter asks for no MsgBegan ahead of it, and counts none as applied.
func TestAppliedWithoutBegan(t *testing.T) {
	w := exampled(t)
	w.mine(t, assign(1, 4, 0), goes(1, 4, 2), began(2, 1, 4), began(3, 1, 4))
	w.sends(t, applied(2, 1, 4))
	w.sends(t, began(3, 1, 4), ofPairs(1, 3, 1, 4, pair(1, 1)))
	w.sends(t, applied(3, 1, 4), done(1, 4, 2))
}

// TestStoresOfTwoBatches: each batch has stores of its own that have applied it.
func TestStoresOfTwoBatches(t *testing.T) {
	w := exampled(t)
	w.mine(t, assign(1, 4, 0), assign(2, 5, 2), goes(1, 4, 2), goes(2, 5, 3))
	w.sends(t, applied(2, 1, 4))
	w.sends(t, applied(3, 2, 5))
	w.sends(t, applied(3, 2, 5))
	w.sends(t, applied(2, 2, 5), done(2, 5, 3))
	w.sends(t, applied(3, 1, 4), done(1, 4, 2))
}

// P17.2: what isn't told.

func TestKindsThatAWorkerDoesNotTake(t *testing.T) {
	inEachState(t, func(w *twin) {
		for from := range 9 {
			for _, attempt := range []int{3, 4, 5} {
				for _, m := range []api.Msg{
					ofEnds(api.MsgReady, from, 1, attempt, 2), ofKeys(from, 1, 1, attempt, 1, 2), ofKeys(from, 1, 1, attempt),
					ofPairs(from, 1, 1, attempt, pair(1, 1)), ofPairs(from, 1, 1, attempt), ofEnds(api.MsgDone, from, 1, attempt, 2),
				} {
					w.sends(t, m)
				}
			}
			// What is told of one kind of node is told of no other.
			if from != 0 {
				for _, ends := range []int{0, 2, 3} {
					w.sends(t, ofEnds(api.MsgAssign, from, 1, 5, ends))
					w.sends(t, ofEnds(api.MsgGo, from, 1, 4, ends))
				}
			}
			if from != 2 && from != 3 {
				for _, code := range []int{0, 130} {
					w.sends(t, ofCode(api.MsgBegan, from, 1, 4, code))
					w.sends(t, ofCode(api.MsgApplied, from, 1, 4, code))
				}
			}
		}
	})
}

// TestFromBatchAndAttempt: of every message that is answered, at the ends of what they may be.
func TestFromBatchAndAttempt(t *testing.T) {
	for workers := 1; workers <= 4; workers++ {
		p := of(workers, 2)
		s := filled(t, p, rising(1, 3))
		for node := 1; node <= workers; node++ {
			for _, number := range []struct{ batch, attempt int }{{1, 1}, {1, lastCount}, {lastCount, 1}, {lastCount, lastCount}, {3, 9}, {9, 3}} {
				w := newTwin(t, p, node, s)
				count := 0
				for _, m := range []api.Msg{
					assign(number.batch, number.attempt, 0, 0), goes(number.batch, number.attempt, 3, 0), began(workers+1, number.batch, number.attempt),
					applied(workers+1, number.batch, number.attempt), applied(workers+2, number.batch, number.attempt),
				} {
					got, _ := w.take(t, toWho(m, node))
					for _, out := range got {
						count++
						if out.From != node || out.Batch != number.batch || out.Attempt != number.attempt || out.Code != 0 {
							t.Errorf("worker %d sends %v", node, out)
						}
					}
				}
				if count != 5 {
					t.Errorf("worker %d sent %d messages", node, count)
				}
			}
		}
	}
}

// P17.3: Held.

// TestHeldByRisingBatches: many of them, so that an order by chance would show.
func TestHeldByRisingBatches(t *testing.T) {
	w := exampled(t)
	for i := range 60 {
		w.mine(t, assign(1+i*37%61, 100-i, i%4))
	}
	for _, batch := range []int{lastCount, 1 << 32, 1<<32 + 1, 256, 255} {
		w.mine(t, assign(batch, 1, 0))
	}
	list := w.w.Held()
	for i := 1; i < len(list); i++ {
		if list[i-1].Batch >= list[i].Batch {
			t.Errorf("Held() is %v", list)
		}
	}
	if len(list) != 65 {
		t.Errorf("Held() are %d", len(list))
	}
}

// TestHeldBehindEachMessage: Begun and Applied.
func TestHeldBehindEachMessage(t *testing.T) {
	w := exampled(t)
	for i, step := range []struct {
		m       api.Msg
		begun   bool
		applied int
	}{
		{assign(1, 4, 0), false, 0}, {goes(1, 4, 1), false, 0}, {applied(2, 1, 4), false, 0}, {goes(1, 4, 2), true, 0}, {began(2, 1, 4), true, 0},
		{applied(3, 1, 4), true, 1}, {applied(3, 1, 4), true, 1}, {began(3, 1, 4), true, 1}, {applied(2, 1, 4), true, 2}, {applied(2, 1, 4), true, 2},
		{assign(1, 4, 0), true, 2}, {assign(1, 5, 9), true, 2}, {assign(1, 5, 0), false, 0},
	} {
		w.mine(t, step.m)
		attempt := 4
		if i == 12 {
			attempt = 5
		}
		if list := w.w.Held(); !sameHeld(list, []api.Held{{Batch: 1, Attempt: attempt, Ends: []int{2}, Begun: step.begun, Applied: step.applied}}) {
			t.Errorf("behind step %d Held() is %v", i, list)
		}
	}
}

func TestHeldOfANilWorker(t *testing.T) {
	var w *Worker
	if list := w.Held(); len(list) != 0 {
		t.Errorf("Held() is %v", list)
	}
}

// P17.4: memory.

// TestThePlansOpsAreNotKept: written over behind New, they change nothing that is reckoned.
func TestThePlansOpsAreNotKept(t *testing.T) {
	for _, steps := range [][]api.Op{{{Kind: api.OpLess, X: 10}}, {{Kind: api.OpRegroup, N: 2}, {Kind: api.OpNeg}}, {}} {
		p := of(1, 1)
		p.Ops = roomy(steps, fillOp())
		w := made(t, p, 1)
		wantRoomy(t, "New", p.Ops, steps, fillOp())
		right := p
		right.Ops = slices.Clone(steps)
		s := filled(t, right, rising(8, 3))
		before, e := w.Take(s, assign(1, 1, 0, 0))
		if len(before) != 1 || e != api.OK {
			t.Fatalf("Take is %v, %d", before, e)
		}
		wantRoomy(t, "Take", p.Ops, steps, fillOp())
		spoil(p.Ops, api.Op{Kind: api.OpLess, X: math.Inf(-1)})
		w.Take(s, assign(2, 1, 0, 0))
		want := reckoned(right, rising(8, 3))
		for batch := 1; batch <= 2; batch++ {
			w.Take(s, goes(batch, 1, 3, 0))
			if got, e := w.Take(s, began(2, batch, 1)); len(got) != 1 || !slices.Equal(got[0].Pairs, want) || e != api.OK {
				t.Errorf("batch %d is %v, %d, not %v", batch, got, e, want)
			}
		}
	}
}

// TestMessagesAreNotKept: neither the ends of MsgAssign nor those of MsgGo, written over behind Take.
func TestMessagesAreNotKept(t *testing.T) {
	p := of(1, 1)
	s := filled(t, p, rising(1, 9), rising(1, 9))
	s.Switch(1, false)
	w := made(t, p, 1)
	first, second := roomyMsg(assign(1, 4, 2, 3)), roomyMsg(goes(1, 4, 5, 3))
	w.Take(s, first)
	spoilMsg(first)
	wantHeld := []api.Held{{Batch: 1, Attempt: 4, Ends: []int{5, 3}}}
	if list := w.Held(); !sameHeld(list, wantHeld) {
		t.Errorf("Held() is %v", list)
	}
	if got, e := w.Take(s, second); !sameMsgs(got, []api.Msg{ofKeys(1, 2, 1, 4, 3, 4, 5)}) || e != api.OK {
		t.Errorf("MsgGo gives %v, %d", got, e)
	}
	spoilMsg(second)
	wantHeld[0].Begun = true
	if list := w.Held(); !sameHeld(list, wantHeld) {
		t.Errorf("Held() is %v", list)
	}
	if got, e := w.Take(s, applied(2, 1, 4)); !sameMsgs(got, []api.Msg{done(1, 4, 5, 3)}) || e != api.OK {
		t.Errorf("MsgApplied gives %v, %d", got, e)
	}
}

// TestAnswersAreNewMemory: written over and grown, an answer changes neither the worker nor an answer of before.
func TestAnswersAreNewMemory(t *testing.T) {
	p := of(1, 3)
	p.Batch = 16
	s := filled(t, p, rising(1, 12), rising(4, 5))
	w := made(t, p, 1)
	twice := func(m api.Msg, again api.Msg) {
		t.Helper()
		first, e := w.Take(s, m)
		old := cloned(first)
		second, f := w.Take(s, again)
		if len(first) == 0 || len(second) == 0 || e != api.OK || f != api.OK {
			t.Fatalf("Take(%v) is %v, %d, then %v, %d", m, first, e, second, f)
		}
		kept := cloned(second)
		spoilMsgs(second)
		if !sameMsgs(first, old) {
			t.Errorf("an answer to %v has become %v, not %v", m, first, old)
		}
		spoilMsgs(first)
		if third, _ := w.Take(s, again); len(third) > 0 && !sameMsgs(third, kept) {
			t.Errorf("a third answer to %v is %v, not %v", again, third, kept)
		}
	}
	twice(assign(1, 4, 0, 0), assign(2, 4, 0, 0))
	twice(goes(1, 4, 12, 5), goes(2, 4, 12, 5))
	for store := 2; store <= 4; store++ {
		twice(began(store, 1, 4), began(store, 1, 4))
		if got, _ := w.Take(s, applied(store, 1, 4)); (len(got) != 0) != (store == 4) {
			t.Errorf("MsgApplied from %d gives %v", store, got)
		}
	}
	twice(applied(4, 1, 4), applied(2, 1, 4))
}

// TestListsOfOneAnswer: each message's are its own.
func TestListsOfOneAnswer(t *testing.T) {
	p := of(1, 4)
	p.Batch = 16
	s := filled(t, p, rising(1, 13), rising(9, 11))
	w := made(t, p, 1)
	w.Take(s, assign(1, 4, 0, 0))
	got, _ := w.Take(s, goes(1, 4, 13, 11))
	old := cloned(got)
	if len(got) != 4 {
		t.Fatalf("MsgGo gives %v", got)
	}
	for i := range got {
		spoilMsg(got[i])
		if !sameMsgs(got[i+1:], old[i+1:]) {
			t.Errorf("message %d written over, the others have become %v", i, got[i+1:])
		}
	}
	for store := 2; store <= 5; store++ {
		if got, _ := w.Take(s, began(store, 1, 4)); len(got) != 1 || len(got[0].Pairs) != len(old[store-2].Keys) {
			t.Errorf("MsgBegan from %d gives %v", store, got)
		}
	}
}

func TestHeldIsNewMemory(t *testing.T) {
	p := of(1, 1)
	s := filled(t, p, rising(1, 5), rising(1, 5))
	w := made(t, p, 1)
	w.Take(s, assign(1, 4, 0, 0))
	w.Take(s, assign(2, 4, 0, 0))
	want := []api.Held{{Batch: 1, Attempt: 4, Ends: []int{3, 3}}, {Batch: 2, Attempt: 4, Ends: []int{3, 3}}}
	first, second := w.Held(), w.Held()
	spoil(first[0].Ends, fillEnd)
	if !slices.Equal(first[1].Ends, want[1].Ends) {
		t.Errorf("the second of one answer has become %v", first[1])
	}
	spoilHeld(first)
	if !sameHeld(second, want) || !sameHeld(w.Held(), want) {
		t.Errorf("another answer of Held has become %v", second)
	}
	// Neither does what the worker takes behind it change what was answered.
	w.Take(s, goes(1, 4, 3, 3))
	w.Take(s, applied(2, 1, 4))
	w.Take(s, assign(2, 5, 1, 1))
	if !sameHeld(second, want) {
		t.Errorf("what was answered has become %v", second)
	}
}

// TestTheSourceStays: a worker reads it, and no more.
func TestTheSourceStays(t *testing.T) {
	w := exampled(t)
	w.mine(t, assign(1, 4, 0), goes(1, 4, 2), began(2, 1, 4), applied(2, 1, 4), applied(3, 1, 4))
	if !slices.Equal(w.s.Log(0), three()) || !w.s.Up(0) || w.s.Parts() != 1 || !slices.Equal(w.s.Keys(), []uint64{1, 2}) {
		t.Errorf("the source has become %v, %v", w.s.Log(0), w.s.Keys())
	}
}

// All of it, in rows of calls.

// call hands in a message of any kind that is mostly about what there is, and lets the source grow and switch now and then.
func (w *twin) call(t *testing.T, d *dice) {
	t.Helper()
	switch d.below(12) {
	case 0:
		w.s.Switch(d.below(w.p.Parts), d.below(3) > 0)
	case 1:
		w.s.Produce(d.below(w.p.Parts), api.Record{Key: uint64(d.below(20)), Val: float64(d.below(300)) / 2})
	}
	batch, attempt := 1+d.below(4), 1+d.below(12)
	ends := []int{}
	for p := range w.p.Parts {
		ends = append(ends, d.below(2+w.s.Len(p)))
	}
	if d.below(3) > 0 && len(w.row) > 0 {
		h := w.row[d.below(len(w.row))]
		batch, attempt = h.batch, h.attempt
		if d.below(4) > 0 {
			ends = h.ends
		}
	}
	from := 1 + w.p.Workers + d.below(w.p.Stores)
	if d.below(10) == 0 {
		from = d.below(9)
	}
	code := 0
	if d.below(15) == 0 {
		code = d.below(1001)
	}
	m := ofCode(api.MsgApplied, from, batch, attempt, code)
	switch d.below(9) {
	case 0:
		m = assign(batch, attempt+d.below(2), ends...)
	case 1, 2, 3:
		m = goes(batch, attempt, ends...)
	case 4, 5:
		m.Kind = api.MsgBegan
	case 6:
		m = []api.Msg{ofEnds(api.MsgReady, from, batch, attempt, ends...), ofKeys(from, 1, batch, attempt, 1), ofPairs(from, 1, batch, attempt), ofEnds(api.MsgDone, 0, batch, attempt, ends...)}[d.below(4)]
	}
	m.To = w.node
	if d.below(30) == 0 {
		m.To = d.below(10)
	}
	w.take(t, m)
}

func TestRowsOfCalls(t *testing.T) {
	d := &dice{state: 17}
	dones := 0
	for row := range 160 {
		p := of(1+row%4, 1+row/4%4)
		p.Parts, p.Agg, p.Batch = 1+row%3, 1+row/2%4, 1+row%5
		w := newTwin(t, p, 1+d.below(p.Workers), filled(t, p, rising(uint64(row), 4)))
		for range 200 {
			w.call(t, d)
		}
		for _, h := range w.row {
			if len(h.done) == p.Stores {
				dones++
			}
		}
	}
	if dones < 50 {
		t.Errorf("only %d attempts were applied by all", dones)
	}
}

// TestTwoWorkersByTurns: they have nothing in common, not even over one source.
func TestTwoWorkersByTurns(t *testing.T) {
	p := of(2, 2)
	s := filled(t, p, rising(1, 6), rising(3, 4))
	a, b := newTwin(t, p, 1, s), newTwin(t, p, 2, s)
	here, there := &dice{state: 5}, &dice{state: 6}
	for range 600 {
		a.call(t, here)
		b.check(t, "a message to the other")
		b.call(t, there)
		a.check(t, "a message to the other")
	}
}

// TestCallsHangOnTheirWorkerAlone: the same messages at two workers, with others in between, give the same.
func TestCallsHangOnTheirWorkerAlone(t *testing.T) {
	p := of(1, 2)
	a, b := newTwin(t, p, 1, filled(t, p, rising(1, 6))), newTwin(t, p, 1, filled(t, p, rising(1, 6)))
	other := newTwin(t, of(2, 1), 2, filled(t, p, rising(1, 6)))
	here, there, between := &dice{state: 3}, &dice{state: 3}, &dice{state: 4}
	for range 400 {
		a.call(t, here)
		other.call(t, between)
		b.call(t, there)
		if !sameHeld(a.w.Held(), b.w.Held()) {
			t.Fatalf("the same messages made %v and %v", a.w.Held(), b.w.Held())
		}
	}
}
