package coord

import (
	"slices"
	"testing"

	"reprise/api"
	"reprise/disk"
)

// The four examples.

// exampleOne, exampleTwo, exampleThree: the coordinator of the examples behind the first, the second and the third of them.
func exampleOne(t *testing.T) *pairing {
	t.Helper()
	x := begun(t, small())
	x.ticks(t, assign(2, 1, 1, 0))
	x.ticks(t)
	x.wantTries(t, api.Try{Batch: 1, Attempt: 1, Node: 2, Phase: 1, Ticks: 1, From: []int{0}})
	return x
}

func exampleTwo(t *testing.T) *pairing {
	t.Helper()
	x := exampleOne(t)
	x.sends(t, ready(2, 1, 1, 4), goes(2, 1, 1, 4))
	x.ticks(t, assign(1, 2, 2, 4))
	x.sends(t, ready(1, 2, 2, 6))
	x.wantTries(t,
		api.Try{Batch: 1, Attempt: 1, Node: 2, Phase: 3, Ticks: 1, From: []int{0}, To: []int{4}},
		api.Try{Batch: 2, Attempt: 2, Node: 1, Phase: 2, From: []int{4}, To: []int{6}},
	)
	return x
}

func exampleThree(t *testing.T) *pairing {
	t.Helper()
	x := exampleTwo(t)
	x.sends(t, done(2, 1, 1, 4), goes(1, 2, 2, 6))
	x.wantNote(t, one(1, 0, 4, 2))
	x.wantTries(t, api.Try{Batch: 2, Attempt: 2, Node: 1, Phase: 3, From: []int{4}, To: []int{6}})
	return x
}

func TestExampleTheFirstAttempt(t *testing.T) { exampleOne(t) }

func TestExampleTheSecondOneWaits(t *testing.T) { exampleTwo(t) }

func TestExampleTheFirstOneIsCommitted(t *testing.T) { exampleThree(t) }

func TestExampleGivenUp(t *testing.T) {
	x := exampleThree(t)
	x.ticks(t, assign(2, 3, 3, 6))
	x.idle(t, 6)
	x.wantTries(t,
		api.Try{Batch: 2, Attempt: 2, Node: 1, Phase: 3, Ticks: 7, From: []int{4}, To: []int{6}},
		api.Try{Batch: 3, Attempt: 3, Node: 2, Phase: 1, Ticks: 6, From: []int{6}},
	)
	x.ticks(t, assign(1, 2, 4, 4))
	x.wantTries(t, api.Try{Batch: 2, Attempt: 4, Node: 1, Phase: 1, From: []int{4}})
	x.ignores(t, done(1, 2, 2, 6))
	x.wantNote(t, one(1, 0, 4, 4))
}

// P19.1

func TestOpenOfANewJournal(t *testing.T) {
	for parts := 1; parts <= 4; parts++ {
		x := begun(t, broad(parts))
		x.wantNote(t, first(parts))
		x.wantTries(t)
	}
	for _, f := range fields() {
		for _, n := range []int{f.least, f.most} {
			p := small()
			*f.at(&p) = n
			begun(t, p)
		}
	}
}

func TestOpenOfAJournalWithANote(t *testing.T) {
	for _, n := range []api.Note{one(0, 0, 0, 5), one(1, 0, 0, 1), one(3, 7, 9, 300), one(most, 255, 256, most)} {
		for _, gen := range []int{1, 9, most} {
			x := held(t, small(), gen, n)
			x.wantNote(t, n)
			x.wantTries(t)
		}
		// Of two notes the one of the greater generation.
		c := wantOpen(t, small(), loaded(t, text(3, one(2, 1, 4, 2)), text(4, n)), api.OK)
		wantState(t, c, n, nil, false)
		c = wantOpen(t, small(), loaded(t, text(4, n), text(3, one(2, 1, 4, 2))), api.OK)
		wantState(t, c, n, nil, false)
	}
}

// disksWithout: disks on which no journal of one partition is.
func disksWithout(t *testing.T) []*disk.Disk {
	t.Helper()
	return []*disk.Disk{
		loaded(t, nil), loaded(t, nil, nil), loaded(t, []byte("a"), []byte("b"), []byte("c")), loaded(t, nil, nil, text(1, first(1))),
		formatted(t, 2), formatted(t, 3), formatted(t, 4), loaded(t, text(0, first(1)), text(most+1, first(1))),
	}
}

func TestOpenWithoutAJournal(t *testing.T) {
	for _, d := range disksWithout(t) {
		wantOpen(t, small(), d, api.ErrJournal)
	}
}

func TestOpenOfAnotherNumberOfPartitions(t *testing.T) {
	for parts := 1; parts <= 4; parts++ {
		d := formatted(t, parts)
		for other := 1; other <= 4; other++ {
			want := api.ErrJournal
			if other == parts {
				want = api.OK
			}
			wantOpen(t, broad(other), d, want)
		}
	}
}

func TestOpenOfADiskThatIsDown(t *testing.T) {
	for _, d := range append(disksWithout(t), formatted(t, 1)) {
		d.Off()
		wantOpen(t, small(), d, api.ErrDown)
	}
	d := formatted(t, 1)
	d.Off()
	wantOpen(t, small(), d, api.ErrDown)
	d.On()
	wantOpen(t, small(), d, api.OK)
	// It writes nothing, so that a disk which is armed stays up.
	d.Cut(0)
	wantOpen(t, small(), d, api.OK)
}

func TestOpenOfNoDisk(t *testing.T) {
	for parts := 1; parts <= 4; parts++ {
		wantOpen(t, broad(parts), nil, api.ErrNil)
	}
}

// TestOpenOfNoPlan: a plan at fault is told ahead of all that a disk may be.
func TestOpenOfNoPlan(t *testing.T) {
	down := formatted(t, 1)
	down.Off()
	for _, d := range append(disksWithout(t), formatted(t, 1), down, nil) {
		for _, p := range numbersAtFault() {
			wantOpen(t, p, d, api.ErrPlan)
			p.Ops = []api.Op{{Kind: 13}}
			wantOpen(t, p, d, api.ErrPlan)
		}
		for _, p := range stepsAtFault() {
			wantOpen(t, p, d, api.ErrOps)
		}
	}
}

// The errors of the other calls.

func TestANilCoordinator(t *testing.T) {
	var none *Coord
	wantState(t, none, api.Note{}, nil, false)
	if list, e := none.Tick(); len(list) != 0 || e != api.ErrNil {
		t.Errorf("Tick() is %v, %d", list, e)
	}
	for _, m := range append(wrongs(), ready(2, 1, 1, 4), toWho(ready(2, 1, 1, 4), 3), done(2, 1, 1, 4)) {
		if list, e := none.Take(m); len(list) != 0 || e != api.ErrNil {
			t.Errorf("Take(%v) is %v, %d", m, list, e)
		}
	}
	wantState(t, none, api.Note{}, nil, false)
}

// wantOver: all calls of a coordinator whose power is gone: ErrDown ahead of every other error, nothing changes, and it stays ended.
func wantOver(t *testing.T, c *Coord, d *disk.Disk, n api.Note, tries []api.Try) {
	t.Helper()
	was, writes := d.Image(), d.Writes()
	for range 3 {
		if list, e := c.Tick(); len(list) != 0 || e != api.ErrDown {
			t.Errorf("Tick() is %v, %d", list, e)
		}
		msgs := append(wrongs(), ready(1, 2, 2, 6), toWho(ready(1, 2, 2, 6), 1), done(2, 1, 1, 4), toWho(done(2, 1, 1, 4), 2))
		for _, try := range tries {
			msgs = append(msgs, readyOf(try, 5), readyOf(try, try.From...), doneOf(try))
		}
		for _, m := range msgs {
			if list, e := c.Take(m); len(list) != 0 || e != api.ErrDown {
				t.Errorf("Take(%v) is %v, %d", m, list, e)
			}
		}
		wantState(t, c, n, tries, true)
	}
	if d.Writes() != writes || !slices.EqualFunc(d.Image(), was, slices.Equal) {
		t.Error("an ended coordinator has written")
	}
}

func TestACoordinatorWhoseDiskIsDown(t *testing.T) {
	for _, at := range []func(*testing.T) *pairing{
		func(t *testing.T) *pairing { return begun(t, small()) }, exampleOne, exampleTwo, exampleThree,
	} {
		x := at(t)
		n, tries := x.c.Note(), x.c.Tries()
		x.power(false)
		wantOver(t, x.c, x.on, n, tries)
		// The power is back, but it is ended for good.
		x.power(true)
		wantOver(t, x.c, x.on, n, tries)
		c := wantOpen(t, x.p, x.on, api.OK)
		wantState(t, c, n, nil, false)
	}
}

// TestEachCallFindsTheDiskDown: whichever of the calls it is that finds the power gone.
func TestEachCallFindsTheDiskDown(t *testing.T) {
	for name, call := range map[string]func(c *Coord) bool{
		"Tick":          func(c *Coord) bool { _, e := c.Tick(); return e == api.ErrDown },
		"Take of done":  func(c *Coord) bool { _, e := c.Take(done(2, 1, 1, 4)); return e == api.ErrDown },
		"Take of none":  func(c *Coord) bool { _, e := c.Take(api.Msg{}); return e == api.ErrDown },
		"Take to other": func(c *Coord) bool { _, e := c.Take(toWho(done(2, 1, 1, 4), 3)); return e == api.ErrDown },
		"Ended":         func(c *Coord) bool { return c.Ended() },
	} {
		x := exampleTwo(t)
		n, tries := x.c.Note(), x.c.Tries()
		x.power(false)
		if !call(x.c) {
			t.Errorf("%s of a coordinator whose disk is down", name)
		}
		x.power(true)
		if !x.c.Ended() {
			t.Errorf("behind %s it isn't ended", name)
		}
		wantOver(t, x.c, x.on, n, tries)
	}
}

// TestThePowerIsBackAtOnce: the power went in a Save, and is back ahead of the coordinator's next call.
func TestThePowerIsBackAtOnce(t *testing.T) {
	for _, call := range []func(c *Coord) ([]api.Msg, api.Errno){
		func(c *Coord) ([]api.Msg, api.Errno) { return c.Tick() },
		func(c *Coord) ([]api.Msg, api.Errno) { return c.Take(done(2, 1, 1, 4)) },
	} {
		for _, next := range []func(c *Coord) bool{
			func(c *Coord) bool { _, e := c.Tick(); return e == api.ErrDown },
			func(c *Coord) bool { _, e := c.Take(done(2, 1, 1, 4)); return e == api.ErrDown },
			func(c *Coord) bool { return c.Ended() },
		} {
			d := formatted(t, 1)
			p := small()
			p.Window = 3
			c := wantOpen(t, p, d, api.OK)
			c.Tick()
			c.Take(ready(2, 1, 1, 4))
			d.Cut(0)
			if list, e := call(c); len(list) != 0 || e != api.ErrDown {
				t.Fatalf("it is %v, %d", list, e)
			}
			d.On()
			if !next(c) {
				t.Error("it goes on as if the power had never gone")
			}
			wantOver(t, c, d, c.Note(), c.Tries())
		}
	}
}

func TestNoteAndTriesWhileTheDiskIsDown(t *testing.T) {
	x := exampleTwo(t)
	n, tries := x.c.Note(), x.c.Tries()
	x.power(false)
	for range 2 {
		if !sameNote(x.c.Note(), n) || !sameTries(x.c.Tries(), tries) {
			t.Errorf("Note() and Tries() are %v, %v", x.c.Note(), x.c.Tries())
		}
	}
}

func TestEnded(t *testing.T) {
	x := exampleThree(t)
	x.sends(t, done(1, 2, 2, 6))
	if x.c.Ended() {
		t.Error("it is ended without a loss of power")
	}
	x.arm(0)
	if x.c.Ended() {
		t.Error("it is ended by being armed")
	}
	if _, e := x.tick(t); e != api.ErrDown || !x.c.Ended() {
		t.Errorf("Tick() is %d, Ended() %t", e, x.c.Ended())
	}
	x.power(true)
	if !x.c.Ended() {
		t.Error("it isn't ended any more")
	}
	x.open(t)
	if x.c.Ended() {
		t.Error("it is ended when opened anew")
	}
}

func TestTakeOfWhatIsNoMessage(t *testing.T) {
	for _, at := range []func(*testing.T) *pairing{exampleOne, exampleTwo, exampleThree} {
		x := at(t)
		for _, m := range wrongs() {
			for to := range 9 {
				// To another node it is no message still. Some of it is none just by its To.
				if to > 0 && (m.To < 0 || m.To > 8) {
					continue
				}
				if to > 0 {
					m.To = to
				}
				if list, e := x.c.Take(m); len(list) != 0 || e != api.ErrMsg {
					t.Errorf("Take(%v) is %v, %d", m, list, e)
				}
			}
			x.look(t, "Take of what is no message")
		}
	}
}

func TestTakeOfAMessageToAnotherNode(t *testing.T) {
	for _, at := range []func(*testing.T) *pairing{exampleOne, exampleTwo, exampleThree} {
		x := at(t)
		for to := 1; to <= 8; to++ {
			for _, m := range append(others(2, 1, 1, 4), ready(2, 1, 1, 4), ready(2, 1, 1, 0), ready(1, 2, 2, 6), done(2, 1, 1, 4), done(1, 2, 2, 6)) {
				if list, e := x.take(t, toWho(m, to)); len(list) != 0 || e != api.ErrNode {
					t.Errorf("Take(%v) is %v, %d", toWho(m, to), list, e)
				}
			}
		}
	}
	// What had come to another node may come to this one.
	x := exampleOne(t)
	x.take(t, toWho(ready(2, 1, 1, 4), 1))
	x.sends(t, ready(2, 1, 1, 4), goes(2, 1, 1, 4))
}

// P19.2: its first step.

func TestTicksOfEachPhase(t *testing.T) {
	x := begun(t, wide(4))
	going, waits, more := x.waiting(t, 4), x.waiting(t, 3), x.waiting(t, 1)
	last := x.begin(t)
	if going.Phase != api.Going || waits.Phase != api.Ready || more.Phase != api.Ready || last.Phase != api.Reading {
		t.Fatalf("the phases are %v", x.c.Tries())
	}
	was := x.c.Tries()
	for n := 1; n <= 4; n++ {
		x.idle(t, 1)
		is := x.c.Tries()
		for i, up := range []int{n, 0, 0, n} {
			if is[i].Ticks != was[i].Ticks+up {
				t.Errorf("%d ticks make Ticks of %v %d", n, was[i], is[i].Ticks)
			}
		}
	}
}

// TestANewAttemptHasNoTicks: the tick that begins an attempt isn't one of its own.
func TestANewAttemptHasNoTicks(t *testing.T) {
	x := begun(t, small())
	if try := x.begin(t); try.Ticks != 0 {
		t.Errorf("it is %v", try)
	}
	x.idle(t, 1)
	if try := x.c.Tries()[0]; try.Ticks != 1 {
		t.Errorf("it is %v", try)
	}
}

// TestTicksBeginAnewWithAPhase: a try that is Ready, and one that goes, have none.
func TestTicksBeginAnewWithAPhase(t *testing.T) {
	x := begun(t, wide(2))
	a := x.begin(t)
	x.idle(t, 5)
	x.sends(t, readyOf(a, 4), goes(1, 1, 1, 4))
	x.wantTries(t, api.Try{Batch: 1, Attempt: 1, Node: 1, Phase: 3, From: []int{0}, To: []int{4}})
	b := x.begin(t)
	x.idle(t, 6)
	x.sends(t, readyOf(b, 8))
	x.wantTries(t,
		api.Try{Batch: 1, Attempt: 1, Node: 1, Phase: 3, Ticks: 7, From: []int{0}, To: []int{4}},
		api.Try{Batch: 2, Attempt: 2, Node: 1, Phase: 2, From: []int{4}, To: []int{8}},
	)
	x.sends(t, done(1, 1, 1, 4), goes(1, 2, 2, 8))
	x.wantTries(t, api.Try{Batch: 2, Attempt: 2, Node: 1, Phase: 3, From: []int{4}, To: []int{8}})
}

// P19.2: its second step.

// patient: a plan with this GiveUp.
func patient(window int, giveUp int) api.Plan {
	p := wide(window)
	p.GiveUp = giveUp
	return p
}

func TestGivenUpAtJustGiveUp(t *testing.T) {
	for _, giveUp := range []int{8, 9, 31, 63, 64} {
		// One that is Reading.
		x := begun(t, patient(1, giveUp))
		x.begin(t)
		x.idle(t, giveUp-1)
		x.wantTries(t, api.Try{Batch: 1, Attempt: 1, Node: 1, Phase: 1, Ticks: giveUp - 1, From: []int{0}})
		x.ticks(t, assign(1, 1, 2, 0))
		x.wantTries(t, api.Try{Batch: 1, Attempt: 2, Node: 1, Phase: 1, From: []int{0}})
		x.ignores(t, ready(1, 1, 1, 4))

		// One that goes: it has as many ticks anew.
		x.idle(t, giveUp-1)
		x.sends(t, ready(1, 1, 2, 4), goes(1, 1, 2, 4))
		x.idle(t, giveUp-1)
		x.wantTries(t, api.Try{Batch: 1, Attempt: 2, Node: 1, Phase: 3, Ticks: giveUp - 1, From: []int{0}, To: []int{4}})
		x.ticks(t, assign(1, 1, 3, 0))
		x.ignores(t, done(1, 1, 2, 4))
		x.wantTries(t, api.Try{Batch: 1, Attempt: 3, Node: 1, Phase: 1, From: []int{0}})
	}
}

// TestOneTickAheadOfItIsInTime: what comes at the last moment counts.
func TestOneTickAheadOfItIsInTime(t *testing.T) {
	x := begun(t, patient(1, 8))
	x.begin(t)
	x.idle(t, 7)
	x.sends(t, ready(1, 1, 1, 4), goes(1, 1, 1, 4))
	x.idle(t, 7)
	x.sends(t, done(1, 1, 1, 4))
	x.wantNote(t, one(1, 0, 4, 1))
}

// TestOneThatIsReadyIsNotGivenUp: it waits for those ahead of it as long as they take.
func TestOneThatIsReadyIsNotGivenUp(t *testing.T) {
	x := begun(t, wide(3))
	for range 3 {
		x.waiting(t, 4)
	}
	waited := 0
	for batch := 1; batch <= 2; batch++ {
		ticks := 7 - x.c.Tries()[0].Ticks
		for range ticks {
			// From the second batch on there is room for one more.
			x.tick(t)
		}
		waited += ticks
		last := x.c.Tries()[3-batch]
		if last.Attempt != 3 || last.Phase != api.Ready || last.Ticks != 0 {
			t.Fatalf("behind %d ticks it is %v", waited, last)
		}
		next := x.c.Tries()[1]
		x.sends(t, doneOf(x.c.Tries()[0]), goes(1, next.Batch, next.Attempt, next.To...))
	}
	if waited <= x.p.GiveUp {
		t.Errorf("it has waited for %d ticks alone", waited)
	}
	x.wantNote(t, one(2, 4, 8, 4))
}

func TestThoseBehindAreGivenUpToo(t *testing.T) {
	// The first of four, which goes.
	x := begun(t, wide(4))
	a, b, c := x.waiting(t, 4), x.waiting(t, 4), x.waiting(t, 4)
	d := x.begin(t)
	x.idle(t, 7-x.c.Tries()[0].Ticks)
	x.ticks(t, assign(1, 1, 5, 0))
	x.wantTries(t, api.Try{Batch: 1, Attempt: 5, Node: 1, Phase: 1, From: []int{0}})
	x.ignores(t, doneOf(a), readyOf(b, 8), doneOf(b), doneOf(c), readyOf(d, 16), readyOf(d, 12))
	x.wantNote(t, one(0, 0, 0, 5))

	// The last of three, which is Reading: those ahead of it stay.
	x = begun(t, wide(3))
	a, b = x.waiting(t, 4), x.waiting(t, 4)
	c = x.begin(t)
	x.sends(t, doneOf(a), goes(1, 2, 2, 8))
	x.idle(t, 7)
	x.wantTries(t,
		api.Try{Batch: 2, Attempt: 2, Node: 1, Phase: 3, Ticks: 7, From: []int{4}, To: []int{8}},
		api.Try{Batch: 3, Attempt: 3, Node: 1, Phase: 1, Ticks: 7, From: []int{8}},
	)
	x.sends(t, doneOf(b))
	x.ticks(t, assign(1, 3, 4, 8))
	x.wantTries(t, api.Try{Batch: 3, Attempt: 4, Node: 1, Phase: 1, From: []int{8}})
	x.ignores(t, readyOf(c, 9))
}

// TestTwoThatAreOverdueAtOnce: the first one of them is given up, and so is what stands between.
func TestTwoThatAreOverdueAtOnce(t *testing.T) {
	x := begun(t, wide(4))
	a, b, c := x.waiting(t, 4), x.waiting(t, 4), x.waiting(t, 4)
	d := x.begin(t)
	x.sends(t, doneOf(a), goes(1, 2, 2, 8))
	x.idle(t, 7)
	x.wantTries(t,
		api.Try{Batch: 2, Attempt: 2, Node: 1, Phase: 3, Ticks: 7, From: []int{4}, To: []int{8}},
		api.Try{Batch: 3, Attempt: 3, Node: 1, Phase: 2, From: []int{8}, To: []int{12}},
		api.Try{Batch: 4, Attempt: 4, Node: 1, Phase: 1, Ticks: 7, From: []int{12}},
	)
	x.ticks(t, assign(1, 2, 5, 4))
	x.wantTries(t, api.Try{Batch: 2, Attempt: 5, Node: 1, Phase: 1, From: []int{4}})
	x.ignores(t, doneOf(b), doneOf(c), readyOf(d, 16))
}

// TestTheLastOneAloneIsOverdue: with the one ahead of it going on, just the last one is given up, and begun again at once.
func TestTheLastOneAloneIsOverdue(t *testing.T) {
	x := begun(t, wide(3))
	a, b := x.waiting(t, 4), x.waiting(t, 4)
	c := x.begin(t)
	x.idle(t, 5)
	if got := x.c.Tries()[0].Ticks; got != 7 {
		t.Fatalf("the first one has %d ticks", got)
	}
	x.sends(t, doneOf(a), goes(1, 2, 2, 8))
	x.idle(t, 2)
	x.wantTries(t,
		api.Try{Batch: 2, Attempt: 2, Node: 1, Phase: 3, Ticks: 2, From: []int{4}, To: []int{8}},
		api.Try{Batch: 3, Attempt: 3, Node: 1, Phase: 1, Ticks: 7, From: []int{8}},
	)
	x.ticks(t, assign(1, 3, 4, 8))
	x.wantTries(t,
		api.Try{Batch: 2, Attempt: 2, Node: 1, Phase: 3, Ticks: 3, From: []int{4}, To: []int{8}},
		api.Try{Batch: 3, Attempt: 4, Node: 1, Phase: 1, From: []int{8}},
	)
	x.ignores(t, readyOf(c, 9))
	x.sends(t, doneOf(b))
}
