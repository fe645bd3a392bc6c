package topo

import (
	"slices"
	"testing"

	"reprise/api"
)

// P20.7: the power of each node goes at every write of a call, once and again.

// shaky: a plan of two stores with batches under way at one time.
func shaky() api.Plan {
	return api.Plan{Parts: 2, Stores: 2, Workers: 2, Agg: api.AggSum, Batch: 2, Window: 2, GiveUp: 8}
}

// records: what is produced in it.
func records() []api.Step {
	return []api.Step{
		produce(0, 2, 10), produce(1, 3, 1), produce(0, 3, 100), produce(1, 2, 7), produce(0, 4, -5), produce(1, 3, 0.5), produce(0, 5, 1e3),
	}
}

// whole: the script in which all of it is committed, message by message; the second attempt of a batch among them.
func whole(t *testing.T) []api.Step {
	t.Helper()
	x, script := begun(t, shaky()), records()
	x.all(t, script...)
	add := func(s api.Step) {
		script = append(script, s)
		x.play(t, s)
	}
	// One attempt is applied at one store and then given up, when a partition is off: the next one has other records.
	add(turn(1, 0))
	add(tick())
	for range 6 {
		add(deliver(x.Flights()[0].Number))
	}
	add(turn(1, 1))
	add(turn(0, 0))
	for _, f := range x.Flights() {
		add(drop(f.Number))
	}
	for range 8 {
		add(tick())
	}
	for x.batch == 0 {
		add(deliver(x.Flights()[0].Number))
	}
	add(turn(0, 1))
	for left := 40; left > 0 && !slices.Equal(x.ends, []int{4, 3}); left-- {
		add(tick())
		for _, f := range x.Flights() {
			add(deliver(f.Number))
		}
	}
	wantCommitted(t, x, x.batch, 4, 3)
	return script
}

// behindAll: a topology in which all of a script was played.
func behindAll(t *testing.T, script []api.Step) *pairing {
	t.Helper()
	x := begun(t, shaky())
	x.quick = true
	x.all(t, script...)
	x.quick = false
	x.look(t, "a script")
	return x
}

// wantAll: what is told when all is committed.
func wantAll(t *testing.T, x *pairing) {
	t.Helper()
	x.revive(t, 64)
	x.comesToAnEnd(t)
	for key, want := range map[uint64]int64{2: 17, 3: 101, 4: -5, 5: 1000, 6: 0} {
		v := some(uint64(want))
		if key == 6 {
			v = api.Value{}
		}
		wantQuery(t, x, key, v, api.OK)
	}
}

func TestThePowerGoesAtEveryWrite(t *testing.T) {
	script := whole(t)
	counts := map[int]int{}
	for i, step := range script {
		for _, node := range []int{0, 3, 4} {
			y := behindAll(t, script[:i])
			writes := y.Writes(node)
			y.play(t, step)
			count := y.Writes(node) - writes
			for n := range count {
				x := behindAll(t, script[:i])
				batch, ends := x.Committed()
				mark, _ := x.Mark(node)
				cells, _ := x.Cells(node)
				flights := len(x.Flights())
				if step.Kind == api.StepDeliver {
					flights--
				}
				// Once and again: behind the start the same write may fail again.
				x.plays(t, cut(node, n), api.OK, 0)
				x.plays(t, step, api.ErrDown, 0)
				wantCommitted(t, x, batch, ends...)
				if len(x.Flights()) != flights || x.Up(node) {
					t.Fatalf("step %d, %v: Up(%d) is %t, on their way are %v", i, step, node, x.Up(node), x.Flights())
				}
				x.plays(t, restart(node), api.OK, 0)
				wantCommitted(t, x, batch, ends...)
				now, _ := x.Mark(node)
				left, _ := x.Cells(node)
				if !sameMark(now, mark) || !slices.Equal(left, cells) {
					t.Fatalf("step %d, %v: node %d has %v, %v behind its start, not %v, %v", i, step, node, now, left, mark, cells)
				}
				x.plays(t, cut(node, n), api.OK, 0)
				for left := 12; left > 0 && x.Up(node); left-- {
					x.play(t, round())
				}
				if !x.Up(node) {
					x.plays(t, restart(node), api.OK, 0)
				}
				wantAll(t, x)
				counts[node]++
			}
		}
	}
	if counts[0] < 6 || counts[3] < 10 || counts[4] < 10 {
		t.Errorf("the power went at so many writes of each node: %v", counts)
	}
}

// Every node with a disk has its power go at one of the next writes, in one round and in those behind it.
func TestThePowerGoesOfSeveralNodes(t *testing.T) {
	for rounds := range 12 {
		for first := range 3 {
			for second := range 4 {
				x := begun(t, shaky())
				x.quick = true
				x.all(t, records()...)
				x.rounds(t, rounds)
				x.quick = false
				for _, again := range []int{0, 1, 2} {
					x.all(t, cut(0, first), cut(3, second), cut(4, (second+again)%4))
					x.rounds(t, 4)
					x.all(t, restart(4), restart(0), restart(3), round())
				}
				wantAll(t, x)
			}
		}
	}
}

// A node goes down between two calls, at every moment, and starts at once or later.
func TestANodeCrashesAtEveryMoment(t *testing.T) {
	script := whole(t)
	for i := len(records()); i <= len(script); i++ {
		for node := range nodesOf(shaky()) {
			x := behindAll(t, script[:i])
			batch, ends := x.Committed()
			x.plays(t, crash(node), api.OK, 0)
			wantCommitted(t, x, batch, ends...)
			if i%2 == 0 {
				x.rounds(t, 3)
			}
			was, writes := x.batch, x.Writes(node)
			x.plays(t, restart(node), api.OK, 0)
			// A start writes nothing, so that no power can go within it.
			if x.batch != was || x.Writes(node) != writes {
				t.Errorf("a start of node %d has written %d times; batch %d is committed behind %d", node, x.Writes(node)-writes, x.batch, was)
			}
			x.rounds(t, 2)
			wantAll(t, x)
		}
	}
}

// All nodes go down at every moment, again and again: what was committed stays.
func TestAllNodesCrashAgainAndAgain(t *testing.T) {
	for calm := 1; calm <= 11; calm++ {
		x := begun(t, shaky())
		x.all(t, records()...)
		for range 6 {
			x.rounds(t, calm)
			batch, ends := x.Committed()
			for node := range nodesOf(x.p) {
				x.plays(t, crash(node), api.OK, 0)
				wantCommitted(t, x, batch, ends...)
			}
			for node := nodesOf(x.p) - 1; node >= 0; node-- {
				x.plays(t, restart(node), api.OK, 0)
				wantCommitted(t, x, batch, ends...)
			}
		}
		if calm >= 9 && x.batch == 0 {
			t.Errorf("with %d rounds between, nothing is committed", calm)
		}
		wantAll(t, x)
	}
}
