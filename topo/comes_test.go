package topo

import (
	"slices"
	"testing"

	"reprise/api"
)

// How messages come, are sent and are lost: P20.2.

// receivers: the nodes to which the messages 0 to 7 of the examples come.
func receivers() []int { return []int{1, 0, 1, 2, 1, 2, 1, 0} }

func TestMessagesToANodeThatDoesntRun(t *testing.T) {
	for k, node := range receivers() {
		x := upTo(t, k)
		x.plays(t, crash(node), api.OK, 0)
		x.plays(t, deliver(k), api.ErrNot, 0)
		if list := x.Flights(); len(list) != 0 {
			t.Errorf("message %d has come to a node that doesn't run, and %v is on its way", k, list)
		}
		refuses(t, x, deliver(k), api.ErrNone)
		x.plays(t, restart(node), api.OK, 0)
		refuses(t, x, deliver(k), api.ErrNone)
		if len(x.Flights()) != 0 || len(x.Held(1)) != 0 && node == 1 {
			t.Errorf("message %d has come to a node that didn't run, and is there when it starts", k)
		}
		wantCommitted(t, x, 0, 0)
		x.revive(t, 64)
		x.comesToAnEnd(t)
		wantCommitted(t, x, 2, 3)
	}
}

func TestMessagesToANodeThatDoesntRunInARound(t *testing.T) {
	for k, node := range receivers() {
		x := upTo(t, k)
		x.plays(t, crash(node), api.OK, 0)
		// It has come, and is lost.
		x.plays(t, round(), api.OK, 1)
		if list := x.Flights(); len(list) != 0 {
			t.Errorf("message %d has come to a node that doesn't run, and %v is on its way", k, list)
		}
	}
}

func TestMessagesToOneOfManyThatDoesntRun(t *testing.T) {
	p := api.Plan{Parts: 1, Stores: 3, Workers: 2, Agg: api.AggCount, Batch: 3, Window: 1, GiveUp: 8}
	for node := 3; node <= 5; node++ {
		x := begun(t, p)
		for key := range uint64(3) {
			x.all(t, produce(0, key, 1))
		}
		x.all(t, tick())
		comes(t, x, api.MsgAssign, 2)
		comes(t, x, api.MsgReady, 0)
		x.plays(t, deliver(byKind(t, x, api.MsgGo, 2)), api.OK, 3)
		x.plays(t, crash(node), api.OK, 0)
		x.plays(t, round(), api.OK, 3)
		if list := x.Flights(); len(list) != 2 || slices.ContainsFunc(list, func(f api.Flight) bool { return f.Msg.Kind != api.MsgBegan || f.Msg.From == node }) {
			t.Errorf("node %d doesn't run, and %v is on its way", node, list)
		}
	}
}

// lossy: a message of the examples at which a node with a disk writes; a tick, if it is below 0.
type lossy struct {
	message int
	node    int
	writes  int
}

func lossies() []lossy { return []lossy{{-1, 0, 1}, {3, 2, 2}, {5, 2, 2}, {7, 0, 1}} }

func TestACallThatFindsThePowerGone(t *testing.T) {
	for _, c := range lossies() {
		for n := range c.writes {
			x, step := three(t), tick()
			if c.message >= 0 {
				x, step = upTo(t, c.message), deliver(c.message)
			}
			mark, _ := x.Mark(2)
			cells, _ := x.Cells(2)
			writes := x.Writes(c.node)
			x.plays(t, cut(c.node, n), api.OK, 0)
			x.plays(t, step, api.ErrDown, 0)
			if x.Up(c.node) || x.Writes(c.node) != writes+n || len(x.Flights()) != 0 || len(x.Tries()) != 0 && c.node == 0 {
				t.Errorf("%v, %d: Up is %t, Writes %d behind %d, Flights %v, Tries %v", c, n, x.Up(c.node), x.Writes(c.node), writes, x.Flights(), x.Tries())
			}
			for other := range 3 {
				if other != c.node && !x.Up(other) {
					t.Errorf("%v, %d: node %d is down", c, n, other)
				}
			}
			refuses(t, x, crash(c.node), api.ErrNot)
			refuses(t, x, cut(c.node, 0), api.ErrNot)
			wantCommitted(t, x, 0, 0)
			x.plays(t, restart(c.node), api.OK, 0)
			now, _ := x.Mark(2)
			left, _ := x.Cells(2)
			if !sameMark(now, mark) || !slices.Equal(left, cells) || x.Writes(c.node) != writes+n {
				t.Errorf("%v, %d: behind the start the store has %v, %v, not %v, %v", c, n, now, left, mark, cells)
			}
			wantCommitted(t, x, 0, 0)
		}
		// Just as many writes as the call does go through.
		x, step, number := three(t), tick(), 1
		if c.message >= 0 {
			x, step = upTo(t, c.message), deliver(c.message)
		}
		if c.message == 7 {
			number = 0
		}
		x.plays(t, cut(c.node, c.writes), api.OK, 0)
		x.plays(t, step, api.OK, number)
		if !x.Up(c.node) {
			t.Errorf("%v: the node is down behind %d writes", c, c.writes)
		}
	}
}

func TestMessagesThatWriteNothing(t *testing.T) {
	for k, node := range receivers() {
		if slices.Contains([]int{3, 5, 7}, k) {
			continue
		}
		x := upTo(t, k)
		x.all(t, cut(0, 0), cut(2, 0))
		x.plays(t, deliver(k), api.OK, 1)
		if !x.Up(node) {
			t.Errorf("message %d has no write, and node %d is down", k, node)
		}
	}
}

// What a store says of a message that it refuses is sent, and the step's code is OK.
func TestWhatAStoreRefuses(t *testing.T) {
	x := upTo(t, 3)
	begin := x.play(t, double(3)).Number
	x.plays(t, deliver(3), api.OK, 1)
	x.plays(t, deliver(begin+1), api.OK, 1)
	apply := x.play(t, double(begin+2)).Number
	x.plays(t, drop(begin+2), api.OK, 0)
	for range 9 {
		x.all(t, tick())
	}
	// The second attempt is opened; then those of the first one come.
	for _, kind := range []int{api.MsgAssign, api.MsgReady, api.MsgGo} {
		comes(t, x, kind, receivers()[kind-1])
	}
	for _, f := range x.Flights() {
		if f.Msg.Kind == api.MsgBegin && f.Msg.Attempt == 2 {
			x.plays(t, deliver(f.Number), api.OK, 1)
		}
	}
	for _, c := range []struct {
		number int
		kind   int
	}{{begin, api.MsgBegan}, {apply, api.MsgApplied}} {
		x.plays(t, deliver(c.number), api.OK, 1)
		want := api.Msg{Kind: c.kind, From: 2, To: 1, Batch: 1, Attempt: 1, Code: int(api.ErrFenced)}
		if f := last(t, x.Topo); !sameMsg(f.Msg, want) {
			t.Errorf("the store sends %v, not %v", f.Msg, want)
		}
	}
	if x.fenced != 2 {
		t.Errorf("%d came late", x.fenced)
	}
}

func TestWhatAStoreSendsBack(t *testing.T) {
	x := upTo(t, 3)
	x.plays(t, deliver(3), api.OK, 1)
	if f := last(t, x.Topo); !sameMsg(f.Msg, api.Msg{Kind: api.MsgBegan, From: 2, To: 1, Batch: 1, Attempt: 1}) {
		t.Errorf("the store sends %v", f)
	}
	x.plays(t, deliver(4), api.OK, 1)
	x.plays(t, deliver(5), api.OK, 1)
	if f := last(t, x.Topo); !sameMsg(f.Msg, api.Msg{Kind: api.MsgApplied, From: 2, To: 1, Batch: 1, Attempt: 1}) {
		t.Errorf("the store sends %v", f)
	}
}

// full: a net without room: the copies of a message fill it.
func (x *pairing) full(t *testing.T, k int) {
	t.Helper()
	x.quick = true
	for next := x.twin.next; len(x.twin.flights) < 4096; next++ {
		x.plays(t, double(k), api.OK, next)
	}
	x.quick = false
	x.look(t, "a full net")
	refuses(t, x, double(k), api.ErrFlight)
	refuses(t, x, double(x.twin.next), api.ErrNone)
	refuses(t, x, double(-1), api.ErrNone)
}

func TestMessagesForWhichThereIsNoRoom(t *testing.T) {
	p := api.Plan{Parts: 1, Stores: 4, Workers: 1, Agg: api.AggCount, Batch: 4, Window: 2, GiveUp: 8}
	x := begun(t, p)
	for key := range uint64(8) {
		x.all(t, produce(0, key, 1))
	}
	x.all(t, tick(), deliver(0), deliver(1))
	x.full(t, 2)
	// A tick begins an attempt of which nobody is told.
	writes := x.Writes(0)
	x.plays(t, tick(), api.OK, 0)
	if list := x.Tries(); len(list) != 2 || list[1].Attempt != 2 || x.Writes(0) != writes+1 || len(x.Flights()) != 4096 {
		t.Errorf("Tries() is %v, of %d writes; %d messages are on their way", list, x.Writes(0)-writes, len(x.Flights()))
	}
	// The message leaves the net ahead of what comes of it: of four messages the first finds room.
	next := x.twin.next
	x.plays(t, deliver(2), api.OK, 1)
	if f := last(t, x.Topo); f.Number != next || f.Msg.Kind != api.MsgBegin || f.Msg.To != 2 || len(x.Flights()) != 4096 {
		t.Errorf("sent was %v; %d messages are on their way", f, len(x.Flights()))
	}
	refuses(t, x, double(3), api.ErrFlight)
	// With room for two more; no number was given to those that are lost.
	x.plays(t, drop(3), api.OK, 0)
	x.plays(t, drop(4), api.OK, 0)
	x.plays(t, double(5), api.OK, next+1)
	x.plays(t, double(5), api.OK, next+2)
	refuses(t, x, double(5), api.ErrFlight)
	// A round: each message makes room for what comes of it.
	x.plays(t, round(), api.OK, 4096)
	if list := x.Flights(); len(list) != 1 || list[0].Msg.Kind != api.MsgBegan || list[0].Number != next+3 {
		t.Errorf("on their way are %v", list)
	}
	x.revive(t, 64)
	x.comesToAnEnd(t)
}

func TestARoundInWhichMessagesFindNoRoom(t *testing.T) {
	p := api.Plan{Parts: 1, Stores: 4, Workers: 1, Agg: api.AggCount, Batch: 4, Window: 1, GiveUp: 8}
	x := begun(t, p)
	x.all(t, produce(0, 1, 1), tick(), deliver(0), deliver(1))
	x.full(t, 2)
	// The first MsgGo brings four MsgBegin, one of which finds room; the others bring nothing.
	x.plays(t, round(), api.OK, 4096)
	if list := x.Flights(); len(list) != 1 || list[0].Msg.Kind != api.MsgBegin || list[0].Msg.To != 2 {
		t.Errorf("on their way are %v", list)
	}
}

// Rounds

func TestARoundOfNothing(t *testing.T) {
	x := begun(t, small())
	x.plays(t, round(), api.OK, 0)
	// The tick has sent a message, which doesn't come in the same round.
	if list := x.Flights(); len(list) != 1 || list[0].Msg.Kind != api.MsgAssign || len(x.Held(1)) != 0 {
		t.Errorf("Flights() is %v, Held(1) %v", list, x.Held(1))
	}
	x.plays(t, round(), api.OK, 1)
	if list := x.Flights(); len(list) != 1 || list[0].Number != 1 || list[0].Msg.Kind != api.MsgReady {
		t.Errorf("Flights() is %v", list)
	}
	x.all(t, crash(0))
	x.plays(t, round(), api.OK, 1)
	x.plays(t, round(), api.OK, 0)
	if list := x.Flights(); len(list) != 0 {
		t.Errorf("the coordinator doesn't run, and %v is on its way", list)
	}
}

// The messages come by rising numbers: an attempt that comes behind a newer one is too late.
func TestTheOrderOfARound(t *testing.T) {
	for _, c := range []struct {
		newerFirst bool
		want       []int
	}{{true, []int{2}}, {false, []int{1, 2}}} {
		x := three(t)
		x.plays(t, tick(), api.OK, 1)
		for range 7 {
			x.plays(t, tick(), api.OK, 0)
		}
		x.plays(t, tick(), api.OK, 1)
		if c.newerFirst {
			x.plays(t, double(0), api.OK, 2)
			x.plays(t, drop(0), api.OK, 0)
		}
		x.plays(t, round(), api.OK, 2)
		attempts := []int{}
		for _, f := range x.Flights() {
			attempts = append(attempts, f.Msg.Attempt)
			if f.Msg.Kind != api.MsgReady {
				t.Errorf("on its way is %v", f)
			}
		}
		if !slices.Equal(attempts, c.want) {
			t.Errorf("what came of a round is of the attempts %v, not of %v", attempts, c.want)
		}
	}
}

// The coordinator ticks behind the messages: one that comes in time isn't given up.
func TestTheTickOfARound(t *testing.T) {
	x := upTo(t, 1)
	for range 7 {
		x.plays(t, tick(), api.OK, 0)
	}
	if list := x.Tries(); len(list) != 1 || list[0].Ticks != 7 {
		t.Fatalf("Tries() is %v", list)
	}
	x.plays(t, round(), api.OK, 1)
	want := []api.Try{{Batch: 1, Attempt: 1, Node: 1, Phase: api.Going, Ticks: 1, From: []int{0}, To: []int{2}}}
	if list := x.Tries(); !sameTries(list, want) {
		t.Errorf("Tries() is %v, not %v", list, want)
	}
	if list := x.Flights(); len(list) != 1 || list[0].Msg.Kind != api.MsgGo {
		t.Errorf("Flights() is %v", list)
	}
}

// What came in a round is counted, whatever became of it, and a round has no code.
func TestARoundInWhichThePowerGoes(t *testing.T) {
	x := upTo(t, 3)
	x.plays(t, double(3), api.OK, 4)
	x.plays(t, double(3), api.OK, 5)
	x.plays(t, cut(2, 1), api.OK, 0)
	x.plays(t, round(), api.OK, 3)
	if x.Up(2) || len(x.Flights()) != 0 {
		t.Errorf("Up(2) is %t, Flights() %v", x.Up(2), x.Flights())
	}
	// The coordinator's power goes at a message: it doesn't tick, and what comes then is lost.
	x = upTo(t, 7)
	x.plays(t, double(7), api.OK, 8)
	x.plays(t, cut(0, 0), api.OK, 0)
	x.plays(t, round(), api.OK, 2)
	if x.Up(0) || len(x.Flights()) != 0 {
		t.Errorf("Up(0) is %t, Flights() %v", x.Up(0), x.Flights())
	}
	wantCommitted(t, x, 0, 0)
	// It goes at the tick.
	x = upTo(t, 7)
	x.plays(t, cut(0, 1), api.OK, 0)
	x.plays(t, round(), api.OK, 1)
	if x.Up(0) || len(x.Flights()) != 0 {
		t.Errorf("Up(0) is %t, Flights() %v", x.Up(0), x.Flights())
	}
	wantCommitted(t, x, 1, 2)
	wantQuery(t, x, 7, some(7), api.OK)
}
