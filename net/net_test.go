package net

import (
	"math"
	"slices"
	"testing"

	"reprise/api"
)

// The two examples.

func TestExamples(t *testing.T) {
	a, b, c := ofEnds(1, 5, 0), ofKeys(2, 9), ofPairs(pair(7, 1))
	n := made(t, 2)
	wantNumber := func(what string, got int, e api.Errno, want int, code api.Errno) {
		t.Helper()
		if got != want || e != code {
			t.Errorf("%s is %d, %d, not %d, %d", what, got, e, want, code)
		}
	}
	wantMsg := func(k int, want api.Msg, code api.Errno) {
		t.Helper()
		if got, e := n.Deliver(k); !same(got, want) || e != code {
			t.Errorf("Deliver(%d) is %v, %d, not %v, %d", k, got, e, want, code)
		}
	}
	k, e := n.Send(a)
	wantNumber("Send(a)", k, e, 0, api.OK)
	k, e = n.Send(b)
	wantNumber("Send(b)", k, e, 1, api.OK)
	k, e = n.Send(c)
	wantNumber("Send(c)", k, e, 0, api.ErrFlight)
	k, e = n.Copy(0)
	wantNumber("Copy(0)", k, e, 0, api.ErrFlight)
	k, e = n.Send(api.Msg{})
	wantNumber("Send of no message", k, e, 0, api.ErrMsg)
	wantMsg(0, a, api.OK)
	wantMsg(0, api.Msg{}, api.ErrNone)
	wantNumber("Drop(0)", 0, n.Drop(0), 0, api.ErrNone)
	k, e = n.Copy(0)
	wantNumber("Copy(0)", k, e, 0, api.ErrNone)

	k, e = n.Copy(1)
	wantNumber("Copy(1)", k, e, 2, api.OK)
	if list := n.Flights(); !sameFlights(list, []api.Flight{{Number: 1, Msg: b}, {Number: 2, Msg: b}}) {
		t.Errorf("Flights() is %v", list)
	}
	wantNumber("Next()", n.Next(), 0, 3, 0)
	wantNumber("Drop(1)", 0, n.Drop(1), 0, api.OK)
	wantMsg(2, b, api.OK)
}

// P16.1: New.

func TestNewOfARoomThatThereIs(t *testing.T) {
	for _, most := range []int{0, 1, 2, 63, 64, 255, 256, 4095, mostRoom} {
		w := newTwin(t, most)
		if len(w.n.Flights()) != 0 || w.n.Next() != 0 {
			t.Errorf("New(%d) has %v, %d", most, w.n.Flights(), w.n.Next())
		}
		w.wantNone(t, 0)
		w.wantNone(t, 1)
	}
}

func TestNewOfARoomThatThereIsNot(t *testing.T) {
	for _, most := range []int{-1, mostRoom + 1, -2, mostRoom + 2, -mostRoom, 1 << 16, 1 << 32, 1<<32 + 1, 1 << 62, math.MinInt, math.MinInt + 1, math.MaxInt - 1, math.MaxInt} {
		if n, e := New(most); n != nil || e != api.ErrArg {
			t.Errorf("New(%d) is %v, %d", most, n, e)
		}
	}
}

// TestNewHasJustTheRoom: so many messages are taken, and not one more.
func TestNewHasJustTheRoom(t *testing.T) {
	for most := range 20 {
		w := newTwin(t, most)
		w.sent(t, most)
		if _, e := w.send(t, numbered(0), true); e != api.ErrFlight {
			t.Errorf("New(%d): Send of one more is %d", most, e)
		}
	}
}

func TestTheGreatestNet(t *testing.T) {
	n := made(t, mostRoom)
	for i := range mostRoom {
		if k, e := n.Send(numbered(i)); k != i || e != api.OK {
			t.Fatalf("Send number %d is %d, %d", i, k, e)
		}
	}
	if k, e := n.Send(numbered(0)); k != 0 || e != api.ErrFlight {
		t.Errorf("Send of one more is %d, %d", k, e)
	}
	if k, e := n.Copy(mostRoom - 1); k != 0 || e != api.ErrFlight {
		t.Errorf("Copy of one more is %d, %d", k, e)
	}
	if n.Next() != mostRoom || n.Drop(17) != api.OK {
		t.Errorf("Next() is %d, or Drop doesn't drop", n.Next())
	}
	if k, e := n.Copy(4000); k != mostRoom || e != api.OK {
		t.Errorf("Copy where there is room again is %d, %d", k, e)
	}
	list := n.Flights()
	if len(list) != mostRoom {
		t.Fatalf("Flights() are %d", len(list))
	}
	for i, f := range list {
		want := api.Flight{Number: i, Msg: numbered(i)}
		if i >= 17 {
			want = api.Flight{Number: i + 1, Msg: numbered(i + 1)}
		}
		if i == mostRoom-1 {
			want.Msg = numbered(4000)
		}
		if f.Number != want.Number || !same(f.Msg, want.Msg) {
			t.Fatalf("flight %d is %v, not %v", i, f, want)
		}
	}
}

// P16.2: Send.

func TestSendOfEachMessage(t *testing.T) {
	list := all()
	w := newTwin(t, len(list))
	for i, m := range list {
		if k, e := w.send(t, m, true); k != i || e != api.OK {
			t.Errorf("Send(%v) is %d, %d", m, k, e)
		}
	}
	for i := range list {
		w.deliver(t, i)
	}
	for i, m := range list {
		w.send(t, m, true)
		w.deliver(t, len(list)+i)
	}
}

func TestSendOfWhatIsNoMessage(t *testing.T) {
	empty, full, some := newTwin(t, 0), newTwin(t, 2), newTwin(t, 5)
	full.sent(t, 2)
	some.sent(t, 3)
	for _, m := range wrongs() {
		for _, w := range []*twin{empty, full, some, newTwin(t, 1)} {
			if k, e := w.send(t, m, false); k != 0 || e != api.ErrMsg {
				t.Errorf("Send(%v) is %d, %d", m, k, e)
			}
		}
	}
	full.drop(t, 0)
	if k, e := full.send(t, numbered(2), true); k != 2 || e != api.OK {
		t.Errorf("Send behind many that were refused is %d, %d", k, e)
	}
	some.sent(t, 2)
}

// TestSendOfListsThatHoldNothing: a list without elements is none, nil or not.
func TestSendOfListsThatHoldNothing(t *testing.T) {
	m := ofCode(5, 1)
	m.Ends, m.Keys, m.Pairs = []int{}, []uint64{}, []api.Pair{}
	w := newTwin(t, 4)
	w.send(t, m, true)
	w.send(t, ofKeys([]uint64{}...), true)
	w.send(t, ofKeys(), true)
	w.send(t, ofPairs([]api.Pair{}...), true)
	for k := range 4 {
		w.deliver(t, k)
	}
}

func TestSendAtANetWithoutRoom(t *testing.T) {
	w := newTwin(t, 0)
	for _, m := range all() {
		if k, e := w.send(t, m, true); k != 0 || e != api.ErrFlight {
			t.Errorf("Send(%v) is %d, %d", m, k, e)
		}
	}
	w.wantNone(t, 0)
}

func TestSendAtAFullNetAndAtOneThatHasRoomAgain(t *testing.T) {
	for _, most := range []int{1, 2, 3, 9} {
		w := newTwin(t, most)
		w.sent(t, most)
		for turn := range 3 * most {
			for _, m := range all()[:5] {
				if k, e := w.send(t, m, true); k != 0 || e != api.ErrFlight {
					t.Errorf("Send at a full net is %d, %d", k, e)
				}
			}
			if turn%2 == 0 {
				w.deliver(t, w.row[turn%most].Number)
			} else {
				w.drop(t, w.row[turn%most].Number)
			}
			if k, e := w.send(t, numbered(w.next), true); k != most+turn || e != api.OK {
				t.Errorf("Send where there is room again is %d, %d", k, e)
			}
		}
	}
}

// TestNumbersAreGivenOnce: from 0 on, behind deliveries, drops and refusals too, also when none is on its way any longer.
func TestNumbersAreGivenOnce(t *testing.T) {
	w := newTwin(t, 1)
	for i := range 300 {
		w.send(t, wrongs()[i%len(wrongs())], false)
		if k, e := w.send(t, numbered(i), true); k != i || e != api.OK {
			t.Fatalf("Send number %d is %d, %d", i, k, e)
		}
		w.send(t, numbered(i), true)
		w.double(t, i)
		w.double(t, i+1)
		if i%2 == 0 {
			w.deliver(t, i)
		} else {
			w.drop(t, i)
		}
		w.wantNone(t, i)
	}
	seen := map[int]struct{}{}
	w = newTwin(t, 7)
	for i := range 500 {
		w.send(t, numbered(i), true)
		if len(w.row) < 7 {
			w.double(t, w.row[i%len(w.row)].Number)
		}
		for _, f := range w.n.Flights() {
			seen[f.Number] = struct{}{}
		}
		w.drop(t, w.row[i%len(w.row)].Number)
	}
	if len(seen) != w.n.Next() {
		t.Errorf("%d numbers were seen, the next is %d", len(seen), w.n.Next())
	}
}

// P16.3: Deliver and Drop.

func TestDeliverAndDropOfNumbersThatAreNotOnTheirWay(t *testing.T) {
	for _, most := range []int{5, 20} {
		w := newTwin(t, most)
		w.sent(t, 5)
		if w.deliver(t, 1) != api.OK || w.drop(t, 3) != api.OK {
			t.Error("a message on its way is delivered, and one is dropped")
		}
		for _, k := range append(farNumbers(), 1, 3, 5, 6, 7) {
			w.wantNone(t, k)
		}
		for _, k := range []int{0, 2} {
			if e := w.deliver(t, k); e != api.OK {
				t.Errorf("Deliver(%d) is %d", k, e)
			}
			w.wantNone(t, k)
		}
		if e := w.drop(t, 4); e != api.OK {
			t.Errorf("Drop(4) is %d", e)
		}
		for k := range 6 {
			w.wantNone(t, k)
		}
	}
}

// orders: all orders of the numbers below n.
func orders(n int) [][]int {
	if n == 0 {
		return [][]int{{}}
	}
	list := [][]int{}
	for _, order := range orders(n - 1) {
		for at := range n {
			list = append(list, slices.Insert(slices.Clone(order), at, n-1))
		}
	}
	return list
}

// TestDeliverInAnyOrder: each message is just as it was sent.
func TestDeliverInAnyOrder(t *testing.T) {
	picked := []api.Msg{few(1)[0], few(4)[0], few(6)[0], few(5)[0], few(8)[3]}
	for _, order := range orders(len(picked)) {
		w := newTwin(t, len(picked))
		for _, m := range picked {
			w.send(t, m, true)
		}
		for _, k := range order {
			w.deliver(t, k)
		}
		if len(w.n.Flights()) != 0 || w.n.Next() != len(picked) {
			t.Errorf("behind %v there are %v", order, w.n.Flights())
		}
	}
}

func TestDropInAnyOrderAndDeliverTheRest(t *testing.T) {
	for _, order := range orders(4) {
		for drops := range 5 {
			w := newTwin(t, 4)
			w.sent(t, 4)
			for _, k := range order[:drops] {
				w.drop(t, k)
			}
			for _, k := range order[drops:] {
				w.deliver(t, k)
			}
		}
	}
}

// P16.4: Copy.

func TestCopyOfEachMessage(t *testing.T) {
	for _, m := range all() {
		w := newTwin(t, 3)
		w.send(t, m, true)
		if k, e := w.double(t, 0); k != 1 || e != api.OK {
			t.Errorf("Copy of %v is %d, %d", m, k, e)
		}
		w.deliver(t, 1)
		w.deliver(t, 0)
	}
}

func TestCopyTellsTheFirstError(t *testing.T) {
	empty, full, some := newTwin(t, 0), newTwin(t, 2), newTwin(t, 5)
	full.sent(t, 2)
	full.drop(t, 1)
	full.deliver(t, 0)
	full.sent(t, 2)
	some.sent(t, 3)
	for _, w := range []*twin{empty, full, some} {
		for _, k := range append(farNumbers(), w.next, w.next+1) {
			if got, e := w.double(t, k); got != 0 || e != api.ErrNone {
				t.Errorf("Copy(%d) is %d, %d", k, got, e)
			}
		}
	}
	for k, code := range []api.Errno{api.ErrNone, api.ErrNone, api.ErrFlight, api.ErrFlight, api.ErrNone} {
		if got, e := full.double(t, k); got != 0 || e != code {
			t.Errorf("Copy(%d) at a full net is %d, %d", k, got, e)
		}
	}
}

func TestCopyUntilThereIsNoRoom(t *testing.T) {
	for _, most := range []int{1, 2, 3, 10} {
		w := newTwin(t, most)
		w.send(t, ofKeys(1, 2, 3), true)
		for k := 1; k < most; k++ {
			if got, e := w.double(t, 0); got != k || e != api.OK {
				t.Errorf("Copy number %d is %d, %d", k, got, e)
			}
		}
		for k := range most {
			if got, e := w.double(t, k); got != 0 || e != api.ErrFlight {
				t.Errorf("Copy(%d) at a full net is %d, %d", k, got, e)
			}
		}
		w.drop(t, most-1)
		if most == 1 {
			w.wantNone(t, 0)
			continue
		}
		if got, e := w.double(t, most-2); got != most || e != api.OK {
			t.Errorf("Copy where there is room again is %d, %d", got, e)
		}
	}
}

// TestCopyOfACopy: also when what it was made of is gone.
func TestCopyOfACopy(t *testing.T) {
	w := newTwin(t, 4)
	w.send(t, ofPairs(table(1, 5, 9)...), true)
	for k := range 30 {
		if got, e := w.double(t, k); got != k+1 || e != api.OK {
			t.Fatalf("Copy(%d) is %d, %d", k, got, e)
		}
		if k%2 == 0 {
			w.drop(t, k)
		} else {
			w.deliver(t, k)
		}
		w.wantNone(t, k)
	}
	w.deliver(t, 30)
}

func TestCopyDeliveredOrDroppedAheadOfWhatItWasMadeOf(t *testing.T) {
	for _, m := range all() {
		for way := range 4 {
			w := newTwin(t, 2)
			w.send(t, m, true)
			w.double(t, 0)
			first, second := 1, 0
			if way%2 == 1 {
				first, second = 0, 1
			}
			if way/2 == 0 {
				w.deliver(t, first)
			} else {
				w.drop(t, first)
			}
			w.wantNone(t, first)
			w.deliver(t, second)
		}
	}
}

// P16.5: Flights and Next.

// TestFlightsByTheirNumbers: many of them, so that an order by chance would show.
func TestFlightsByTheirNumbers(t *testing.T) {
	w := newTwin(t, 60)
	w.sent(t, 40)
	for i := range 200 {
		switch i % 4 {
		case 0:
			w.double(t, w.row[i*7%len(w.row)].Number)
		case 1:
			w.drop(t, w.row[i*5%len(w.row)].Number)
		case 2:
			w.send(t, numbered(w.next), true)
		case 3:
			w.deliver(t, w.row[i*3%len(w.row)].Number)
		}
		last := -1
		for _, f := range w.n.Flights() {
			if f.Number <= last || f.Number >= w.n.Next() {
				t.Fatalf("Flights() is %v, Next() %d", w.n.Flights(), w.n.Next())
			}
			last = f.Number
		}
	}
}

// TestAskingChangesNothing: neither Flights nor Next.
func TestAskingChangesNothing(t *testing.T) {
	n := made(t, 3)
	n.Send(ofEnds(1, 4))
	for range 50 {
		if len(n.Flights()) != 1 || n.Next() != 1 {
			t.Fatalf("Flights() is %v, Next() %d", n.Flights(), n.Next())
		}
	}
}

// TestNilNet: ErrNil ahead of all others.
func TestNilNet(t *testing.T) {
	var n *Net
	for _, m := range append(wrongs(), all()...) {
		in := roomyMsg(m)
		if k, e := n.Send(in); k != 0 || e != api.ErrNil {
			t.Errorf("Send is %d, %d", k, e)
		}
		wantRoomyMsg(t, "Send", in, m)
	}
	for _, k := range append(farNumbers(), 0, 1, 2) {
		if m, e := n.Deliver(k); !same(m, api.Msg{}) || e != api.ErrNil {
			t.Errorf("Deliver(%d) is %v, %d", k, m, e)
		}
		if e := n.Drop(k); e != api.ErrNil {
			t.Errorf("Drop(%d) is %d", k, e)
		}
		if got, e := n.Copy(k); got != 0 || e != api.ErrNil {
			t.Errorf("Copy(%d) is %d, %d", k, got, e)
		}
	}
	if len(n.Flights()) != 0 || n.Next() != 0 {
		t.Errorf("Flights() is %v, Next() %d", n.Flights(), n.Next())
	}
}

// P16.6: nets apart.

func TestTwoNetsByTurns(t *testing.T) {
	a, b := newTwin(t, 6), newTwin(t, 3)
	both := func(what string) {
		t.Helper()
		a.check(t, what)
		b.check(t, what)
	}
	m := ofPairs(table(1, 2, 3)...)
	a.send(t, m, true)
	b.send(t, m, true)
	both("the same message to both")
	b.drop(t, 0)
	a.double(t, 0)
	both("a drop here, a copy there")
	for i := range 40 {
		a.send(t, numbered(i), true)
		both("a Send to one")
		b.send(t, numbered(i+1), true)
		both("a Send to the other")
		a.double(t, a.row[i%len(a.row)].Number)
		both("a Copy")
		b.double(t, b.row[0].Number)
		both("another Copy")
		if len(a.row) > 3 {
			a.deliver(t, a.row[i%3].Number)
			both("a Deliver")
		}
		if len(b.row) > 1 {
			b.drop(t, b.row[i%2].Number)
			both("a Drop")
		}
	}
	newTwin(t, 4)
	both("a third net")
}

// P16.6: memory.

// TestSendDoesNotKeepWhatIsHandedIn: written over behind Send, it changes nothing that is on its way, a copy neither.
func TestSendDoesNotKeepWhatIsHandedIn(t *testing.T) {
	for _, m := range all() {
		n := made(t, 3)
		in := roomyMsg(m)
		n.Send(in)
		n.Copy(0)
		spoilMsg(in)
		n.Copy(1)
		in = roomyMsg(m)
		for k := range 3 {
			got, e := n.Deliver(k)
			if !same(got, m) || e != api.OK {
				t.Errorf("Deliver(%d) is %v, %d, not %v", k, got, e, m)
			}
			spoilMsg(got)
			wantRoomyMsg(t, "an answer written over", in, m)
		}
	}
}

// TestOneMessageSentTwice: both have lists of their own.
func TestOneMessageSentTwice(t *testing.T) {
	for _, m := range all() {
		n := made(t, 2)
		in := roomyMsg(m)
		n.Send(in)
		n.Send(in)
		got, _ := n.Deliver(0)
		spoilMsg(got)
		wantRoomyMsg(t, "an answer written over", in, m)
		if got, e := n.Deliver(1); !same(got, m) || e != api.OK {
			t.Errorf("the second is %v, %d, not %v", got, e, m)
		}
	}
}

// TestDeliverAnswersNewMemory: written over and grown, it changes no copy, no flights told before, and no flights told behind.
func TestDeliverAnswersNewMemory(t *testing.T) {
	for _, m := range all() {
		for first := range 2 {
			n := made(t, 3)
			n.Send(m)
			n.Copy(0)
			n.Send(m)
			told := n.Flights()
			old := kept(told)
			got, _ := n.Deliver(first)
			spoilMsg(got)
			if !sameFlights(told, old) {
				t.Errorf("Flights of before has become %v", told)
			}
			for k := range 3 {
				if k == first {
					continue
				}
				if got, e := n.Deliver(k); !same(got, m) || e != api.OK {
					t.Errorf("Deliver(%d) is %v, %d, not %v", k, got, e, m)
				}
			}
		}
	}
}

// TestDeliveredMessagesStay: what is done with the net behind it doesn't change what was answered.
func TestDeliveredMessagesStay(t *testing.T) {
	list := all()
	n := made(t, 2)
	got := []api.Msg{}
	for i, m := range list {
		n.Send(m)
		n.Copy(2 * i)
		one, _ := n.Deliver(2 * i)
		two, _ := n.Deliver(2*i + 1)
		got = append(got, one)
		spoilMsg(two)
	}
	for i, m := range list {
		if !same(got[i], m) {
			t.Errorf("what was delivered has become %v, not %v", got[i], m)
		}
	}
}

// TestFlightsAnswersNewMemory: each message in it has lists of its own, and a second answer is another.
func TestFlightsAnswersNewMemory(t *testing.T) {
	for _, m := range all() {
		n := made(t, 3)
		n.Send(m)
		n.Copy(0)
		n.Copy(1)
		first, second := n.Flights(), n.Flights()
		old := kept(second)
		for i := range first {
			spoilMsg(first[i].Msg)
			if !sameFlights(first[i+1:], old[i+1:]) {
				t.Errorf("flight %d written over, the others have become %v", i, first[i+1:])
			}
		}
		spoil(first, fillFlight())
		if !sameFlights(second, old) || !sameFlights(n.Flights(), old) {
			t.Errorf("another answer of Flights has become %v", second)
		}
		spoilFlights(second)
		for k := range 3 {
			if got, e := n.Deliver(k); !same(got, m) || e != api.OK {
				t.Errorf("Deliver(%d) is %v, %d, not %v", k, got, e, m)
			}
		}
	}
}

// TestFlightsStay: what is done with the net behind it doesn't change what was answered.
func TestFlightsStay(t *testing.T) {
	n := made(t, 50)
	for _, m := range all() {
		n.Send(m)
	}
	told := n.Flights()
	old := kept(told)
	for k := range len(told) {
		n.Copy(k)
		got, _ := n.Deliver(k)
		spoilMsg(got)
		spoilFlights(n.Flights())
		n.Send(numbered(k))
	}
	if !sameFlights(told, old) {
		t.Errorf("what was answered has become %v", told)
	}
}

// All of it, in rows of calls.

// call makes one call of any kind, whose number is mostly near those on their way.
func (w *twin) call(t *testing.T, d *dice) {
	t.Helper()
	k := w.next - 2*w.most + d.below(2*w.most+3)
	if d.below(2) == 0 && len(w.row) > 0 {
		k = w.row[d.below(len(w.row))].Number
	}
	switch d.below(9) {
	case 0, 1, 2:
		w.send(t, d.message(), true)
	case 3:
		w.send(t, wrongs()[d.below(len(wrongs()))], false)
	case 4, 5:
		w.double(t, k)
	case 6, 7:
		w.deliver(t, k)
	default:
		w.drop(t, k)
	}
}

func TestRowsOfCalls(t *testing.T) {
	d := &dice{state: 16}
	for row := range 120 {
		w := newTwin(t, row%13)
		for range 100 {
			w.call(t, d)
		}
	}
}

// TestCallsHangOnTheirNetAlone: the same calls at two nets, with others in between, answer the same.
func TestCallsHangOnTheirNetAlone(t *testing.T) {
	a, b, other := newTwin(t, 9), newTwin(t, 9), newTwin(t, 5)
	here, there, between := &dice{state: 3}, &dice{state: 3}, &dice{state: 4}
	for range 300 {
		a.call(t, here)
		other.call(t, between)
		b.call(t, there)
		if !sameFlights(a.n.Flights(), b.n.Flights()) || a.n.Next() != b.n.Next() {
			t.Fatalf("the same calls made %v and %v", a.n.Flights(), b.n.Flights())
		}
	}
}
