package plan

import (
	"math"
	"slices"
	"testing"

	"reprise/api"
)

// The three examples.

func TestExampleWhoIsWho(t *testing.T) {
	p := of(2, 3)
	wantNodes(t, p, 6)
	wantKind(t, p, 0, 1)
	wantKind(t, p, 2, 2)
	wantKind(t, p, 3, 3)
	wantKind(t, p, 5, 3)
	wantKind(t, p, 6, 0)
	wantKind(t, p, -1, 0)
	wantWorkerOf(t, p, 5, 2)
	wantWorkerOf(t, p, 4, 1)
	wantWorkerOf(t, p, 0, -1)
	wantStoreOf(t, p, 7, 4)
}

func TestExampleDeal(t *testing.T) {
	table := []api.Pair{pair(3, 1), pair(1, 2), pair(4, 3), pair(6, 4)}
	wantDeal(t, of(2, 3), table, [][]api.Pair{{pair(3, 1), pair(6, 4)}, {pair(1, 2), pair(4, 3)}, nil})
}

func TestExampleCheck(t *testing.T) {
	p := of(2, 3)
	p.GiveUp = 7
	wantCheck(t, p, api.ErrPlan)
	p.Ops = neg(9)
	wantCheck(t, p, api.ErrPlan)
	p.GiveUp = 8
	wantCheck(t, p, api.ErrOps)
}

// P14.1: the numbers.

func TestCheckOfEachNumberThatAFieldMayBe(t *testing.T) {
	for _, f := range fields() {
		for x := f.least; x <= f.most; x++ {
			wantCheck(t, f.with(of(2, 3), x), api.OK)
		}
	}
}

func TestCheckOfNumbersThatAFieldMayNotBe(t *testing.T) {
	for _, f := range fields() {
		for _, x := range f.wrongs() {
			wantCheck(t, f.with(of(2, 3), x), api.ErrPlan)
		}
	}
}

func TestCheckAtTheEndsOfAllFields(t *testing.T) {
	least, most := of(2, 3), of(2, 3)
	for _, f := range fields() {
		least, most = f.with(least, f.least), f.with(most, f.most)
	}
	wantCheck(t, least, api.OK)
	wantCheck(t, most, api.OK)
	for _, f := range fields() {
		wantCheck(t, f.with(least, f.most), api.OK)
		wantCheck(t, f.with(most, f.least), api.OK)
		wantCheck(t, f.with(least, f.least-1), api.ErrPlan)
		wantCheck(t, f.with(most, f.most+1), api.ErrPlan)
	}
}

// TestCheckOfTwoWrongFields: a number that is too small and one that is too great don't make up for each other.
func TestCheckOfTwoWrongFields(t *testing.T) {
	for i, f := range fields() {
		for _, g := range fields()[i+1:] {
			wantCheck(t, g.with(f.with(of(2, 3), f.least-1), g.most+1), api.ErrPlan)
			wantCheck(t, g.with(f.with(of(2, 3), f.most+1), g.least-1), api.ErrPlan)
			wantCheck(t, g.with(f.with(of(2, 3), math.MaxInt), math.MinInt), api.ErrPlan)
		}
	}
	wantCheck(t, api.Plan{}, api.ErrPlan)
}

func TestTheBoundsAreTheLimits(t *testing.T) {
	want := []int{api.MaxParts, api.MaxStores, api.MaxWorkers, api.AggMost, api.MaxBatch, api.MaxWindow, api.MaxGiveUp}
	for i, f := range fields() {
		wantCheck(t, f.with(of(2, 3), want[i]), api.OK)
		wantCheck(t, f.with(of(2, 3), want[i]+1), api.ErrPlan)
	}
	p := of(api.MaxWorkers, api.MaxStores)
	p.GiveUp = api.MinGiveUp
	wantNodes(t, p, api.MaxNodes)
	p.GiveUp--
	wantNodes(t, p, 0)
}

// P14.1: the pipeline.

func TestCheckOfPipelines(t *testing.T) {
	p := of(2, 3)
	for _, list := range [][]api.Op{nil, {}, steps()[:8]} {
		p.Ops = list
		wantCheck(t, p, api.OK)
	}
	for count := range 9 {
		p.Ops = neg(count)
		wantCheck(t, p, api.OK)
	}
	for _, o := range steps() {
		p.Ops = []api.Op{o}
		wantCheck(t, p, api.OK)
		p.Ops = append(neg(7), o)
		wantCheck(t, p, api.OK)
	}
}

func TestCheckOfWhatIsNoPipeline(t *testing.T) {
	for _, list := range noPipelines() {
		p := of(2, 3)
		p.Ops = list
		wantCheck(t, p, api.ErrOps)
	}
}

// TestTheSpareRoomOfOpsIsNoStep: what stands behind a list isn't looked at.
func TestTheSpareRoomOfOpsIsNoStep(t *testing.T) {
	for count := range 9 {
		p := of(2, 3)
		p.Ops = append(neg(count), api.Op{}, api.Op{Kind: 13})[:count]
		wantCheck(t, p, api.OK)
	}
}

func TestCheckTellsPlanFirst(t *testing.T) {
	lists := [][]api.Op{neg(9), {{}}, {{Kind: 13}}, {{Kind: api.OpScale, N: 2201}}, {{Kind: api.OpRegroup}}}
	for _, list := range lists {
		p := of(2, 3)
		p.Ops = list
		wantCheck(t, p, api.ErrOps)
		for _, f := range fields() {
			for _, x := range f.wrongs() {
				wantCheck(t, f.with(p, x), api.ErrPlan)
			}
		}
	}
}

// What is no plan has no nodes, no workers, no stores and no lists (P14.2 to P14.4).

func TestNoPlan(t *testing.T) {
	for _, p := range noPlans() {
		e := Check(p)
		if e == api.OK {
			t.Errorf("Check(%v) is OK", p)
		}
		wantNone(t, p, e)
	}
}

// P14.2.

func TestNodesOfEachNumber(t *testing.T) {
	for workers := 1; workers <= 4; workers++ {
		for stores := 1; stores <= 4; stores++ {
			wantNodes(t, of(workers, stores), 1+workers+stores)
		}
		wantNodes(t, of(workers, 0), 0)
		wantNodes(t, of(workers, 5), 0)
		wantNodes(t, of(0, workers), 0)
		wantNodes(t, of(5, workers), 0)
	}
	wantNodes(t, of(1, 1), 3)
	wantNodes(t, of(4, 4), 9)
}

func TestKindOfEachNode(t *testing.T) {
	for _, p := range plans() {
		want := row(p)
		wantNodes(t, p, len(want))
		for node, kind := range want {
			wantKind(t, p, node, kind)
		}
		for _, node := range []int{-1, -2, -len(want), len(want), len(want) + 1, 10, 256, 1 << 32, 1<<32 + 1, math.MinInt, math.MinInt + 1, math.MaxInt - 1, math.MaxInt} {
			wantKind(t, p, node, 0)
		}
	}
}

func TestKindsByTheirNames(t *testing.T) {
	wantKind(t, of(1, 1), 0, api.NodeCoord)
	wantKind(t, of(1, 1), 1, api.NodeWorker)
	wantKind(t, of(1, 1), 2, api.NodeStore)
}

// P14.3: workers.

func TestWorkerOfSmallAttempts(t *testing.T) {
	for _, p := range plans() {
		wantWorkerOf(t, p, 0, -1)
		// Each attempt goes to the worker behind the last one's, round and round.
		node := 1
		for attempt := 1; attempt <= 13; attempt++ {
			node++
			if node > p.Workers {
				node = 1
			}
			wantWorkerOf(t, p, attempt, node)
			if kind := Kind(p, WorkerOf(p, attempt)); kind != api.NodeWorker {
				t.Errorf("WorkerOf(%v, %d) is of the kind %d", p, attempt, kind)
			}
		}
	}
}

func TestWorkerOfAtTheNumberOfWorkers(t *testing.T) {
	for workers := 1; workers <= 4; workers++ {
		for stores := 1; stores <= 4; stores++ {
			wantWorkerOf(t, of(workers, stores), workers, 1)
			wantWorkerOf(t, of(workers, stores), 2*workers, 1)
		}
	}
	wantWorkerOf(t, of(1, 4), 1, 1)
	wantWorkerOf(t, of(1, 4), 2, 1)
	wantWorkerOf(t, of(2, 4), 1, 2)
	wantWorkerOf(t, of(2, 4), 3, 2)
	wantWorkerOf(t, of(3, 1), 1, 2)
	wantWorkerOf(t, of(3, 1), 2, 3)
	wantWorkerOf(t, of(3, 1), 4, 2)
	wantWorkerOf(t, of(4, 2), 3, 4)
	wantWorkerOf(t, of(4, 2), 5, 2)
}

// TestWorkerOfGreatAttempts: also of those above the greatest that a message tells.
func TestWorkerOfGreatAttempts(t *testing.T) {
	for _, c := range []struct {
		attempt int
		rests   [4]int
	}{
		{1<<31 - 1, [4]int{0, 1, 1, 3}},
		{1 << 31, [4]int{0, 0, 2, 0}},
		{1 << 32, [4]int{0, 0, 1, 0}},
		{1<<40 - 1, [4]int{0, 1, 0, 3}},
		{1 << 40, [4]int{0, 0, 1, 0}},
		{1<<40 + 1, [4]int{0, 1, 2, 1}},
		{math.MaxInt - 1, [4]int{0, 0, 0, 2}},
		{math.MaxInt, [4]int{0, 1, 1, 3}},
	} {
		for i, rest := range c.rests {
			wantWorkerOf(t, of(i+1, 3), c.attempt, 1+rest)
		}
	}
}

func TestWorkerOfAttemptsBelow1(t *testing.T) {
	for workers := 1; workers <= 4; workers++ {
		for _, attempt := range []int{0, -1, -2, -3, -4, -5, -1 << 31, -1 << 40, math.MinInt + 1, math.MinInt} {
			wantWorkerOf(t, of(workers, 2), attempt, -1)
		}
	}
}

// P14.3: stores.

func TestStoreOfSmallKeys(t *testing.T) {
	for _, p := range plans() {
		// Each key is kept by the store behind the last one's, round and round, from the first store on.
		node := 1 + p.Workers
		for key := range uint64(14) {
			wantStoreOf(t, p, key, node)
			if kind := Kind(p, StoreOf(p, key)); kind != api.NodeStore {
				t.Errorf("StoreOf(%v, %d) is of the kind %d", p, key, kind)
			}
			node++
			if node > p.Workers+p.Stores {
				node = 1 + p.Workers
			}
		}
	}
}

func TestStoreOfAtTheNumberOfStores(t *testing.T) {
	for workers := 1; workers <= 4; workers++ {
		for stores := 1; stores <= 4; stores++ {
			p := of(workers, stores)
			wantStoreOf(t, p, 0, 1+workers)
			wantStoreOf(t, p, uint64(stores)-1, workers+stores)
			wantStoreOf(t, p, uint64(stores), 1+workers)
			wantStoreOf(t, p, 2*uint64(stores), 1+workers)
		}
	}
}

func TestStoreOfGreatKeys(t *testing.T) {
	for _, c := range []struct {
		key   uint64
		rests [4]int
	}{
		{1<<32 - 1, [4]int{0, 1, 0, 3}},
		{1 << 32, [4]int{0, 0, 1, 0}},
		{1<<62 + 1, [4]int{0, 1, 2, 1}},
		{1<<63 - 1, [4]int{0, 1, 1, 3}},
		{1 << 63, [4]int{0, 0, 2, 0}},
		{1<<63 + 1, [4]int{0, 1, 0, 1}},
		{1<<63 + 2, [4]int{0, 0, 1, 2}},
		{lastKey - 2, [4]int{0, 1, 1, 1}},
		{lastKey - 1, [4]int{0, 0, 2, 2}},
		{lastKey, [4]int{0, 1, 0, 3}},
	} {
		for i, rest := range c.rests {
			for workers := 1; workers <= 4; workers++ {
				wantStoreOf(t, of(workers, i+1), c.key, 1+workers+rest)
			}
		}
	}
}

// P14.4.

func TestDealOfNoPairs(t *testing.T) {
	for _, p := range plans() {
		for _, table := range [][]api.Pair{nil, {}} {
			lists := Deal(p, table)
			if len(lists) != p.Stores {
				t.Errorf("Deal(%v) of no pairs has %d lists", p, len(lists))
			}
			for _, list := range lists {
				if len(list) != 0 {
					t.Errorf("Deal(%v) of no pairs is %v", p, lists)
				}
			}
		}
	}
}

func TestDealOfEachTable(t *testing.T) {
	for _, p := range plans() {
		for _, table := range tables() {
			wantDeal(t, p, table, dealt(p, table))
		}
	}
}

func TestDealInTheOrderInWhichPairsStand(t *testing.T) {
	table := []api.Pair{pair(9, 1), pair(1, 2), void(9, 3), pair(5, 4), pair(1, 2), pair(0, 5), void(1, 6), pair(lastKey, 7), pair(4, 8)}
	wantDeal(t, of(3, 1), table, [][]api.Pair{table})
	wantDeal(t, of(3, 2), table, [][]api.Pair{
		{pair(0, 5), pair(4, 8)},
		{pair(9, 1), pair(1, 2), void(9, 3), pair(5, 4), pair(1, 2), void(1, 6), pair(lastKey, 7)},
	})
	wantDeal(t, of(3, 3), table, [][]api.Pair{
		{pair(9, 1), void(9, 3), pair(0, 5), pair(lastKey, 7)},
		{pair(1, 2), pair(1, 2), void(1, 6), pair(4, 8)},
		{pair(5, 4)},
	})
	wantDeal(t, of(3, 4), table, [][]api.Pair{
		{pair(0, 5), pair(4, 8)},
		{pair(9, 1), pair(1, 2), void(9, 3), pair(5, 4), pair(1, 2), void(1, 6)},
		nil,
		{pair(lastKey, 7)},
	})
}

// TestDealOfTheSpareRoom: what stands behind the list of pairs is none of them.
func TestDealOfTheSpareRoom(t *testing.T) {
	all := many(40, 1)
	for count := range len(all) {
		p := of(2, 3)
		if lists := Deal(p, all[:count]); !sameLists(lists, dealt(p, slices.Clone(all[:count]))) {
			t.Errorf("Deal of %d pairs is %v", count, lists)
		}
	}
}

// TestDealTakesEachPairOnce: the lists have just the pairs that were handed in.
func TestDealTakesEachPairOnce(t *testing.T) {
	for _, p := range plans() {
		for _, table := range tables() {
			seen := map[api.Pair]int{}
			for _, one := range table {
				seen[one]++
			}
			for store, list := range Deal(p, table) {
				for _, one := range list {
					seen[one]--
					if StoreOf(p, one.Key) != 1+p.Workers+store {
						t.Errorf("Deal(%v): %v is in the list %d", p, one, store)
					}
				}
			}
			for one, left := range seen {
				if left != 0 {
					t.Errorf("Deal(%v): %v is left %d times", p, one, left)
				}
			}
		}
	}
}

// P14.5: what the tests above ask of each single call (held, roomy, spoil), and the lists of one answer.

func TestListsOfOneAnswerShareNothing(t *testing.T) {
	for _, p := range plans() {
		for _, table := range tables() {
			wantAlone(t, p, table)
		}
	}
}

// TestDealOfOneStoreIsNewMemory: also where the one list is the whole table.
func TestDealOfOneStoreIsNewMemory(t *testing.T) {
	table := []api.Pair{pair(1, 1), pair(2, 2), pair(3, 3)}
	was := slices.Clone(table)
	list := Deal(of(1, 1), table)[0]
	spoil(list, pair(7, 7))
	if !slices.Equal(table, was) {
		t.Errorf("what was handed in has become %v", table)
	}
	list = Deal(of(1, 1), table)[0]
	spoil(table, pair(8, 8))
	if !slices.Equal(list, was) {
		t.Errorf("the answer has become %v", list)
	}
}

// TestAnswersStay: answers stay what they were through later calls.
func TestAnswersStay(t *testing.T) {
	var answers [][][]api.Pair
	for _, p := range plans() {
		for _, table := range tables() {
			answers = append(answers, Deal(p, table))
		}
	}
	at := 0
	for _, p := range plans() {
		for _, table := range tables() {
			if want := dealt(p, table); !sameLists(answers[at], want) {
				t.Errorf("answer %d has become %v, not %v", at, answers[at], want)
			}
			at++
		}
	}
}
