package coord

import (
	"testing"

	"reprise/api"
)

// P19.2: its third step.

func TestANewAttemptWithNoTry(t *testing.T) {
	for workers := 1; workers <= 4; workers++ {
		for _, n := range []api.Note{one(0, 0, 0, 0), one(0, 0, 0, 6), one(1, 0, 3, 1), one(7, 9, 9, 300), one(most-1, 200, 256, most-1)} {
			p := small()
			p.Workers = workers
			x := held(t, p, 5, n)
			attempt := n.Attempts + 1
			node, end := 1+attempt%workers, n.Done.Cur[0]
			x.ticks(t, assign(node, n.Done.Batch+1, attempt, end))
			x.wantTries(t, api.Try{Batch: n.Done.Batch + 1, Attempt: attempt, Node: node, Phase: 1, From: []int{end}})
			x.wantNote(t, one(n.Done.Batch, n.Done.Prev[0], end, attempt))
			if x.on.Writes() != 1 {
				t.Errorf("it has written %d blocks", x.on.Writes())
			}
		}
	}
}

func TestNoNewAttemptBehindOneThatIsReading(t *testing.T) {
	for window := 1; window <= 4; window++ {
		x := begun(t, wide(window))
		x.begin(t)
		x.idle(t, 7)
		if x.on.Writes() != 3 || len(x.c.Tries()) != 1 {
			t.Errorf("the tries are %v", x.c.Tries())
		}
		// Neither behind others.
		if window > 2 {
			x = begun(t, wide(window))
			x.waiting(t, 4)
			x.waiting(t, 4)
			x.begin(t)
			x.idle(t, 5)
			if len(x.c.Tries()) != 3 {
				t.Errorf("the tries are %v", x.c.Tries())
			}
		}
	}
}

func TestANewAttemptBehindOneThatGoes(t *testing.T) {
	x := begun(t, small())
	x.waiting(t, 3)
	x.ticks(t, assign(1, 2, 2, 3))
	x.wantTries(t,
		api.Try{Batch: 1, Attempt: 1, Node: 2, Phase: 3, Ticks: 1, From: []int{0}, To: []int{3}},
		api.Try{Batch: 2, Attempt: 2, Node: 1, Phase: 1, From: []int{3}},
	)
	// Where the one ahead ends isn't committed.
	x.wantNote(t, one(0, 0, 0, 2))
}

func TestANewAttemptBehindOneThatIsReady(t *testing.T) {
	p := small()
	p.Window = 3
	x := begun(t, p)
	x.waiting(t, 3)
	x.waiting(t, 2)
	x.ticks(t, assign(2, 3, 3, 5))
	x.wantTries(t,
		api.Try{Batch: 1, Attempt: 1, Node: 2, Phase: 3, Ticks: 2, From: []int{0}, To: []int{3}},
		api.Try{Batch: 2, Attempt: 2, Node: 1, Phase: 2, From: []int{3}, To: []int{5}},
		api.Try{Batch: 3, Attempt: 3, Node: 2, Phase: 1, From: []int{5}},
	)
	x.wantNote(t, one(0, 0, 0, 3))
}

func TestAsManyTriesAsWindow(t *testing.T) {
	for window := 1; window <= 4; window++ {
		x := begun(t, wide(window))
		for count := 1; count <= window; count++ {
			x.waiting(t, 4)
			if len(x.c.Tries()) != count {
				t.Fatalf("the tries are %v", x.c.Tries())
			}
		}
		writes := x.on.Writes()
		x.idle(t, 3)
		if len(x.c.Tries()) != window || x.on.Writes() != writes {
			t.Errorf("the tries are %v", x.c.Tries())
		}
		// When the first one is committed there is one fewer.
		x.take(t, doneOf(x.c.Tries()[0]))
		x.wantNote(t, one(1, 0, 4, window))
		x.ticks(t, assign(1, window+1, window+1, 4*window))
		if len(x.c.Tries()) != window {
			t.Errorf("the tries are %v", x.c.Tries())
		}
		x.idle(t, 1)
	}
}

// TestBatchesOfTries: the batches are the ones right behind the committed one, whatever was given up between.
func TestBatchesOfTries(t *testing.T) {
	x := held(t, wide(4), 3, one(5, 20, 24, 9))
	for i := range 4 {
		if try := x.waiting(t, 4); try.Batch != 6+i || try.Attempt != 10+i || try.From[0] != 24+4*i {
			t.Errorf("the try %d is %v", i, try)
		}
	}
	x.take(t, doneOf(x.c.Tries()[0]))
	x.take(t, doneOf(x.c.Tries()[0]))
	if try := x.begin(t); try.Batch != 10 || try.Attempt != 14 || try.From[0] != 40 {
		t.Errorf("it is %v", try)
	}
	// The last one reads nothing, and its batch is begun again.
	x.sends(t, readyOf(x.c.Tries()[2], 40))
	if try := x.begin(t); try.Batch != 10 || try.Attempt != 15 || try.From[0] != 40 {
		t.Errorf("it is %v", try)
	}
}

func TestAttemptsGoRoundTheWorkers(t *testing.T) {
	for workers := 1; workers <= 4; workers++ {
		p := patient(1, 8)
		p.Workers = workers
		x := begun(t, p)
		for attempt := 1; attempt <= 9; attempt++ {
			try := x.begin(t)
			if try.Attempt != attempt || try.Node != 1+attempt%workers || try.Batch != 1 {
				t.Errorf("attempt %d of %d workers is %v", attempt, workers, try)
			}
			x.sends(t, readyOf(try, 0))
		}
	}
}

func TestSeveralPartitions(t *testing.T) {
	x := held(t, broad(3), 2, note(2, []int{0, 1, 2}, []int{3, 1, 5}, 4))
	x.ticks(t, assign(3, 3, 5, 3, 1, 5))
	x.sends(t, ready(3, 3, 5, 3, 4, 6), goes(3, 3, 5, 3, 4, 6))
	x.ticks(t, assign(1, 4, 6, 3, 4, 6))
	x.sends(t, ready(1, 4, 6, 6, 4, 6))
	x.sends(t, done(3, 3, 5, 3, 4, 6), goes(1, 4, 6, 6, 4, 6))
	x.wantNote(t, note(3, []int{3, 1, 5}, []int{3, 4, 6}, 6))
}

// The Save of a new attempt.

func TestThePowerGoesInTheSaveOfANewAttempt(t *testing.T) {
	// With no try.
	x := begun(t, small())
	x.arm(0)
	if list, e := x.tick(t); len(list) != 0 || e != api.ErrDown {
		t.Errorf("Tick() is %v, %d", list, e)
	}
	x.wantTries(t)
	x.wantNote(t, first(1))
	wantOver(t, x.c, x.on, first(1), nil)
	x.power(true)
	wantOver(t, x.c, x.on, first(1), nil)
	x.open(t)
	x.ticks(t, assign(2, 1, 1, 0))

	// With tries: these are as behind the second step, with their ticks.
	x = begun(t, wide(3))
	x.waiting(t, 4)
	x.waiting(t, 4)
	x.arm(0)
	if _, e := x.tick(t); e != api.ErrDown {
		t.Errorf("Tick() is %d", e)
	}
	left := []api.Try{
		{Batch: 1, Attempt: 1, Node: 1, Phase: 3, Ticks: 2, From: []int{0}, To: []int{4}},
		{Batch: 2, Attempt: 2, Node: 1, Phase: 2, From: []int{4}, To: []int{8}},
	}
	x.wantTries(t, left...)
	wantOver(t, x.c, x.on, one(0, 0, 0, 2), left)
	x.power(true)
	wantOver(t, x.c, x.on, one(0, 0, 0, 2), left)

	// With one that is overdue: it is given up, and none is there in its place.
	x = begun(t, wide(2))
	x.begin(t)
	x.idle(t, 7)
	x.arm(0)
	if _, e := x.tick(t); e != api.ErrDown {
		t.Errorf("Tick() is %d", e)
	}
	x.wantTries(t)
	wantOver(t, x.c, x.on, one(0, 0, 0, 1), nil)
	x.power(true)
	x.open(t)
	x.ticks(t, assign(1, 1, 2, 0))
}

// TestATickThatBeginsNothingWritesNothing: the power of a disk that is armed stays.
func TestATickThatBeginsNothingWritesNothing(t *testing.T) {
	x := begun(t, wide(2))
	x.begin(t)
	x.arm(0)
	x.idle(t, 7)
	if _, e := x.tick(t); e != api.ErrDown {
		t.Errorf("Tick() is %d", e)
	}
	x = begun(t, wide(1))
	x.arm(1)
	x.begin(t)
	x.idle(t, 3)
	x.sends(t, ready(1, 1, 1, 2), goes(1, 1, 1, 2))
	x.idle(t, 3)
	if _, e := x.take(t, done(1, 1, 1, 2)); e != api.ErrDown {
		t.Errorf("Take is %d", e)
	}
}

// TestASaveThatAnswersAnotherError: nothing is begun, and that is no error.
func TestASaveThatAnswersAnotherError(t *testing.T) {
	for _, c := range []struct {
		gen      int
		attempts int
	}{
		{1, most}, {most, 3}, {most, most}, {most - 1, most},
	} {
		x := held(t, wide(2), c.gen, one(3, 4, 5, c.attempts))
		x.idle(t, 3)
		x.wantTries(t)
		x.wantNote(t, one(3, 4, 5, c.attempts))
		if x.on.Writes() != 0 || x.c.Ended() {
			t.Errorf("it has written %d blocks, Ended() is %t", x.on.Writes(), x.c.Ended())
		}
		// It is ended no less than others by a loss of power.
		x.power(false)
		if _, e := x.tick(t); e != api.ErrDown {
			t.Errorf("Tick() is %d", e)
		}
	}
}

// TestTheLastAttempt: behind it the tries tick and are given up still, but none is begun.
func TestTheLastAttempt(t *testing.T) {
	x := held(t, wide(2), 1, one(3, 4, 5, most-1))
	x.ticks(t, assign(1, 4, most, 5))
	x.sends(t, ready(1, 4, most, 7), goes(1, 4, most, 7))
	x.idle(t, 7)
	x.wantTries(t, api.Try{Batch: 4, Attempt: most, Node: 1, Phase: 3, Ticks: 7, From: []int{5}, To: []int{7}})
	x.idle(t, 1)
	x.wantTries(t)
	x.idle(t, 9)
	x.wantNote(t, one(3, 4, 5, most))

	// Or it is committed.
	x = held(t, wide(2), 1, one(3, 4, 5, most-1))
	x.begin(t)
	x.sends(t, ready(1, 4, most, 7), goes(1, 4, most, 7))
	x.idle(t, 2)
	x.sends(t, done(1, 4, most, 7))
	x.wantNote(t, one(4, 5, 7, most))
	x.idle(t, 9)
	x.wantTries(t)
}

// TestAJournalOfOneBlock: its Save has an error of the disk's own, so that nothing is ever begun.
func TestAJournalOfOneBlock(t *testing.T) {
	d := loaded(t, text(4, one(3, 4, 5, 6)))
	c := wantOpen(t, small(), d, api.OK)
	for range 3 {
		if list, e := c.Tick(); len(list) != 0 || e != api.OK {
			t.Errorf("Tick() is %v, %d", list, e)
		}
		wantState(t, c, one(3, 4, 5, 6), nil, false)
	}
}

// TestTheLastBatch: the batch with the greatest number is committed. Of the one behind it, which no message tells, nothing can come.
func TestTheLastBatch(t *testing.T) {
	x := held(t, wide(2), 1, one(most-1, 4, 5, 6))
	x.ticks(t, assign(1, most, 7, 5))
	x.sends(t, ready(1, most, 7, 6), goes(1, most, 7, 6))
	x.sends(t, done(1, most, 7, 6))
	x.wantNote(t, one(most, 5, 6, 7))
	if list, e := x.tick(t); e != api.OK || len(list) != 1 || list[0].Batch != most+1 {
		t.Errorf("Tick() is %v, %d", list, e)
	}
	if _, e := x.c.Take(ready(1, most+1, 8, 7)); e != api.ErrMsg {
		t.Errorf("Take is %d", e)
	}
	x.idle(t, 7)
	x.wantNote(t, one(most, 5, 6, 8))
}
