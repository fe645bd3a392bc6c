package coord

import (
	"slices"
	"testing"

	"reprise/api"
)

// P19.5

// state is a row of numbers, always the same ones.
type state uint64

func (s *state) below(n int) int {
	*s = *s*6364136223846793005 + 1442695040888963407
	return int(*s>>33) % n
}

// witness sees what is sent and what is committed through a coordinator's whole life, through all openings.
type witness struct {
	attempt int // the last one that was begun
	note    api.Note
	commits int
}

// sees holds what was sent and the note to what was seen before.
func (w *witness) sees(t *testing.T, sent []api.Msg, n api.Note) {
	t.Helper()
	for _, m := range sent {
		if m.Kind != api.MsgAssign {
			continue
		}
		if m.Attempt <= w.attempt {
			t.Fatalf("the attempt %d comes behind %d", m.Attempt, w.attempt)
		}
		w.attempt = m.Attempt
	}
	if n.Attempts < w.attempt {
		t.Fatalf("the note knows of %d attempts, not of %d", n.Attempts, w.attempt)
	}
	switch n.Done.Batch - w.note.Done.Batch {
	case 0:
		if !slices.Equal(n.Done.Cur, w.note.Done.Cur) || !slices.Equal(n.Done.Prev, w.note.Done.Prev) {
			t.Fatalf("behind %v is %v", w.note, n)
		}
	case 1:
		w.commits++
		if !slices.Equal(n.Done.Prev, w.note.Done.Cur) {
			t.Fatalf("behind %v is %v", w.note, n)
		}
	default:
		t.Fatalf("behind %v is %v", w.note, n)
	}
	for p, end := range n.Done.Cur {
		if end < w.note.Done.Cur[p] {
			t.Fatalf("behind %v is %v", w.note, n)
		}
	}
	w.note = n
}

// wantInOrder holds the tries to what the words say of them at every moment.
func wantInOrder(t *testing.T, p api.Plan, n api.Note, tries []api.Try) {
	t.Helper()
	if len(tries) > p.Window {
		t.Fatalf("there are %d tries", len(tries))
	}
	from := n.Done.Cur
	for i, try := range tries {
		last := i == len(tries)-1
		right := try.Batch == n.Done.Batch+1+i && slices.Equal(try.From, from) && try.Ticks < p.GiveUp &&
			(try.Phase == api.Reading) == (len(try.To) == 0) && (try.Phase != api.Reading || last) &&
			(try.Phase != api.Going || i == 0) && (try.Phase != api.Ready || i > 0 && try.Ticks == 0)
		if !right {
			t.Fatalf("behind %v the tries are %v", n, tries)
		}
		from = try.To
	}
}

// someMsg: one that a worker may have said of one of the tries, or one near it; or one of before.
func (s *state) someMsg(x *pairing, old []api.Msg) api.Msg {
	tries := x.c.Tries()
	if len(tries) == 0 || len(old) > 0 && s.below(6) == 0 {
		if len(old) == 0 {
			return ready(1, 1, 1, make([]int, x.p.Parts)...)
		}
		return old[s.below(len(old))]
	}
	try := tries[s.below(len(tries))]
	m := readyOf(try, s.someEnds(try.From, x.p.Batch)...)
	if try.Phase != api.Reading && s.below(5) > 0 {
		m = doneOf(try)
	}
	if s.below(8) == 0 {
		for _, number := range []*int{&m.Batch, &m.Attempt, &m.From, &m.Ends[s.below(len(m.Ends))]} {
			if s.below(4) == 0 {
				*number = max(1, *number+s.below(3)-1)
			}
		}
		m.Kind = []int{m.Kind, m.Kind, api.MsgReady, api.MsgDone, api.MsgAssign, api.MsgGo}[s.below(6)]
	}
	for i, end := range m.Ends {
		m.Ends[i] = min(max(end, 0), 256)
	}
	return m
}

// someEnds: ends that go on by at most so many, seldom by one more.
func (s *state) someEnds(from []int, most int) []int {
	ends := slices.Clone(from)
	step := s.below(most + 1)
	for i := range ends {
		if s.below(3) > 0 {
			ends[i] += step
		}
	}
	if s.below(12) == 0 {
		ends[s.below(len(ends))] += 1 + most
	}
	for i := range ends {
		ends[i] = min(ends[i], 256)
	}
	return ends
}

func TestALongRowOfCalls(t *testing.T) {
	for parts := 1; parts <= 4; parts++ {
		for window := 1; window <= 4; window++ {
			p := broad(parts)
			p.Window, p.GiveUp, p.Workers, p.Batch = window, 8+window, 1+(parts+window)%4, 1
			x := begun(t, p)
			s, w := state(10*parts+window), &witness{note: first(parts)}
			var old []api.Msg
			for range 3000 {
				var sent []api.Msg
				switch s.below(24) {
				case 0:
					x.arm(s.below(4) - 1)
				case 1:
					x.power(s.below(3) > 0)
				case 2:
					x.open(t)
				case 3, 4, 5, 6, 7, 8, 9, 10:
					sent, _ = x.tick(t)
				default:
					if x.isDown() && s.below(2) > 0 {
						x.power(true)
						x.open(t)
					}
					m := s.someMsg(x, old)
					old = append(old, m)
					sent, _ = x.take(t, m)
				}
				x.look(t, "one of a long row of calls")
				w.sees(t, sent, x.c.Note())
				if !x.c.Ended() {
					wantInOrder(t, p, x.c.Note(), x.c.Tries())
				}
			}
			if w.commits < 50 || w.attempt < 100 {
				t.Errorf("%d parts, window %d: only %d commits and %d attempts", parts, window, w.commits, w.attempt)
			}
		}
	}
}

// call is one of the things that may happen to a coordinator, told by its number.
func (x *pairing) call(t *testing.T, number int) []api.Msg {
	t.Helper()
	tries := x.c.Tries()
	// Where there is no try: messages of attempts that there may have been.
	firstTry, lastTry := api.Try{Batch: 1, Attempt: 1, Node: 1, From: []int{0}, To: []int{1}}, api.Try{Batch: 2, Attempt: 2, Node: 1, From: []int{1}, To: []int{2}}
	if len(tries) > 0 {
		firstTry, lastTry = tries[0], tries[len(tries)-1]
	}
	if len(firstTry.To) == 0 {
		firstTry.To = []int{firstTry.From[0] + 1}
	}
	var sent []api.Msg
	switch number {
	case 0:
		sent, _ = x.tick(t)
	case 1:
		sent, _ = x.take(t, readyOf(lastTry, lastTry.From[0]+1))
	case 2:
		sent, _ = x.take(t, doneOf(firstTry))
	case 3:
		sent, _ = x.take(t, readyOf(lastTry, lastTry.From[0]))
	case 4:
		for range 7 {
			more, _ := x.tick(t)
			sent = append(sent, more...)
		}
	case 5:
		x.arm(0)
	case 6:
		x.arm(1)
	case 7:
		x.power(!x.off)
	case 8:
		x.power(true)
		x.open(t)
	case 9:
		sent, _ = x.take(t, ready(1, 1, 1, 1))
	}
	return sent
}

func TestCallsInEveryOrder(t *testing.T) {
	for row := range 100000 {
		x, w := begun(t, wide(2)), &witness{note: first(1)}
		// Two calls ahead, so that there is something to lose.
		x.call(t, 0)
		x.call(t, 1)
		w.attempt = 1
		for rest := row; rest > 0; rest /= 10 {
			sent := x.call(t, rest%10)
			w.sees(t, sent, x.c.Note())
		}
		if t.Failed() {
			t.Fatalf("the calls %d, from the last digit on", row)
		}
	}
}

// TestNumbersThroughLossesOfPower: the power goes at every write in its turn, and all is done in the end.
func TestNumbersThroughLossesOfPower(t *testing.T) {
	for writes := range 12 {
		x, w := begun(t, wide(2)), &witness{note: first(1)}
		x.arm(writes)
		losses := 0
		for batch := 1; batch <= 4; {
			sent, e := x.tick(t)
			w.sees(t, sent, x.c.Note())
			for _, try := range x.c.Tries() {
				if e == api.OK && try.Phase == api.Reading {
					sent, e = x.take(t, readyOf(try, try.From[0]+2))
					w.sees(t, sent, x.c.Note())
				}
			}
			if tries := x.c.Tries(); e == api.OK {
				sent, e = x.take(t, doneOf(tries[0]))
				w.sees(t, sent, x.c.Note())
			}
			if e == api.ErrDown {
				n := x.c.Note()
				x.power(true)
				x.open(t)
				if !sameNote(x.c.Note(), n) {
					t.Fatalf("behind the loss of power the note is %v, not %v", x.c.Note(), n)
				}
				// Armed anew, it goes a little later each time.
				losses++
				x.arm(losses)
			}
			batch = x.c.Note().Done.Batch + 1
			if losses > 20 {
				t.Fatalf("with %d writes nothing is done", writes)
			}
		}
		if n := x.c.Note(); n.Done.Batch != 4 || n.Done.Cur[0] != 8 || w.commits != 4 {
			t.Errorf("in the end it is %v", n)
		}
	}
}

// TestAnAttemptWhoseNumberWasNotKept: the power goes in its Save, so that nobody was told of it, and it is given once.
func TestAnAttemptWhoseNumberWasNotKept(t *testing.T) {
	x := begun(t, small())
	for range 3 {
		x.arm(0)
		if list, e := x.tick(t); len(list) != 0 || e != api.ErrDown {
			t.Fatalf("Tick() is %v, %d", list, e)
		}
		x.power(true)
		x.open(t)
	}
	x.ticks(t, assign(2, 1, 1, 0))
	// One whose number was kept is never given again, though it is forgotten.
	for attempt := 2; attempt < 9; attempt++ {
		x.power(false)
		x.power(true)
		x.open(t)
		x.ticks(t, assign(1+attempt%2, 1, attempt, 0))
	}
}

// P19.6

func TestThePlanIsNotKept(t *testing.T) {
	p := broad(2)
	p.Ops = roomy(p.Ops, fillOp())
	given := slices.Clone(p.Ops)
	c := wantOpen(t, p, formatted(t, 2), api.OK)
	wantRoomy(t, "Open", p.Ops, given, fillOp())
	// Steps that are none: whoever keeps them has no plan any more, and finds no worker.
	spoil(p.Ops, api.Op{Kind: 99})
	list, e := c.Tick()
	wantSent(t, "Tick()", list, e, assign(2, 1, 1, 0, 0))
	list, e = c.Take(ready(2, 1, 1, 3, 0))
	wantSent(t, "Take", list, e, goes(2, 1, 1, 3, 0))
	list, e = c.Tick()
	wantSent(t, "Tick()", list, e, assign(3, 2, 2, 3, 0))
}

func TestMessagesAreNotKept(t *testing.T) {
	x := begun(t, broad(2))
	try := x.begin(t)
	ends := roomy([]int{3, 0}, filler)
	sent, e := x.c.Take(readyOf(try, ends...))
	wantRoomy(t, "Take", ends, []int{3, 0}, filler)
	spoil(ends, 77)
	wantSent(t, "Take", sent, e, goes(2, 1, 1, 3, 0))
	tries := []api.Try{{Batch: 1, Attempt: 1, Node: 2, Phase: 3, From: []int{0, 0}, To: []int{3, 0}}}
	wantState(t, x.c, note(0, []int{0, 0}, []int{0, 0}, 1), tries, false)
	// The answer is neither the message's list nor the try's.
	sent[0].Ends[0] = 66
	spoilMsgs(sent)
	wantState(t, x.c, note(0, []int{0, 0}, []int{0, 0}, 1), tries, false)
	last := roomy([]int{3, 0}, filler)
	if sent, e = x.c.Take(done(2, 1, 1, last...)); len(sent) != 0 || e != api.OK {
		t.Errorf("Take is %v, %d", sent, e)
	}
	wantRoomy(t, "Take", last, []int{3, 0}, filler)
	spoil(last, 77)
	wantState(t, x.c, note(1, []int{0, 0}, []int{3, 0}, 1), nil, false)
}

// TestAnswersStay: what comes behind an answer doesn't change it, and neither does a second answer that is written over.
func TestAnswersStay(t *testing.T) {
	x := begun(t, wide(3))
	assigned, _ := x.c.Tick()
	x.model.tick()
	going, _ := x.c.Take(ready(1, 1, 1, 4))
	x.model.take(ready(1, 1, 1, 4))
	x.waiting(t, 4)
	x.begin(t)
	n, tries := x.c.Note(), x.c.Tries()
	second, again := x.c.Note(), x.c.Tries()
	spoilNote(second)
	spoilTries(again)
	x.sends(t, done(1, 1, 1, 4), goes(1, 2, 2, 8))
	x.idle(t, 7)
	x.tick(t)
	if !sameMsgs(assigned, []api.Msg{assign(1, 1, 1, 0)}) || !sameMsgs(going, []api.Msg{goes(1, 1, 1, 4)}) {
		t.Errorf("the answers have become %v, %v", assigned, going)
	}
	if !sameNote(n, one(0, 0, 0, 3)) {
		t.Errorf("the note has become %v", n)
	}
	if !sameTries(tries, []api.Try{
		{Batch: 1, Attempt: 1, Node: 1, Phase: 3, Ticks: 2, From: []int{0}, To: []int{4}},
		{Batch: 2, Attempt: 2, Node: 1, Phase: 2, From: []int{4}, To: []int{8}},
		{Batch: 3, Attempt: 3, Node: 1, Phase: 1, From: []int{8}},
	}) {
		t.Errorf("the tries have become %v", tries)
	}
}

// TestListsOfOneAnswerShareNothing: each list of an answer, written over and grown, leaves the others as they are.
func TestListsOfOneAnswerShareNothing(t *testing.T) {
	x := begun(t, wide(3))
	x.waiting(t, 4)
	x.waiting(t, 4)
	x.begin(t)
	want := x.c.Tries()
	for at := range 6 {
		tries := x.c.Tries()
		lists := []*[]int{&tries[0].From, &tries[0].To, &tries[1].From, &tries[1].To, &tries[2].From, &tries[2].To}
		spoil(*lists[at], -7)
		was := []*[]int{&want[0].From, &want[0].To, &want[1].From, &want[1].To, &want[2].From, &want[2].To}
		for i := range lists {
			if i != at && !slices.Equal(*lists[i], *was[i]) {
				t.Errorf("with the list %d the list %d has become %v", at, i, *lists[i])
			}
		}
	}
	// Of a new journal's note too, whose lists are the same.
	n := begun(t, small()).c.Note()
	spoil(n.Done.Prev, -7)
	if n.Done.Cur[0] != 0 {
		t.Errorf("Cur has become %v", n.Done.Cur)
	}
}

func TestTwoCoordinators(t *testing.T) {
	a, b := begun(t, wide(2)), begun(t, wide(2))
	a.waiting(t, 4)
	b.look(t, "another one's calls")
	b.waiting(t, 3)
	a.power(false)
	a.tick(t)
	b.sends(t, done(1, 1, 1, 3))
	a.look(t, "another one's calls")
	b.wantNote(t, one(1, 0, 3, 1))
	a.wantNote(t, one(0, 0, 0, 1))
}
