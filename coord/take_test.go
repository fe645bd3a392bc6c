package coord

import (
	"testing"

	"reprise/api"
)

// P19.3: MsgReady.

func TestReadyOfTheFirstTry(t *testing.T) {
	for _, end := range []int{1, 2, 3, 4} {
		x := exampleOne(t)
		writes := x.on.Writes()
		x.sends(t, ready(2, 1, 1, end), goes(2, 1, 1, end))
		x.wantTries(t, api.Try{Batch: 1, Attempt: 1, Node: 2, Phase: 3, From: []int{0}, To: []int{end}})
		// It isn't kept for good.
		if x.on.Writes() != writes {
			t.Errorf("it has written")
		}
		x.wantNote(t, one(0, 0, 0, 1))
	}
}

func TestReadyOfALaterTry(t *testing.T) {
	for _, end := range []int{5, 6, 7, 8} {
		x := exampleOne(t)
		x.sends(t, ready(2, 1, 1, 4), goes(2, 1, 1, 4))
		x.ticks(t, assign(1, 2, 2, 4))
		x.sends(t, ready(1, 2, 2, end))
		x.wantTries(t,
			api.Try{Batch: 1, Attempt: 1, Node: 2, Phase: 3, Ticks: 1, From: []int{0}, To: []int{4}},
			api.Try{Batch: 2, Attempt: 2, Node: 1, Phase: 2, From: []int{4}, To: []int{end}},
		)
	}
}

// TestReadyOfATryThatHasBecomeTheFirst: it was a later one when it was begun.
func TestReadyOfATryThatHasBecomeTheFirst(t *testing.T) {
	x := begun(t, wide(2))
	a := x.waiting(t, 4)
	b := x.begin(t)
	x.sends(t, doneOf(a))
	x.sends(t, readyOf(b, 8), goes(1, 2, 2, 8))
	x.wantTries(t, api.Try{Batch: 2, Attempt: 2, Node: 1, Phase: 3, From: []int{4}, To: []int{8}})
}

// notReady: messages near what the worker of the try says, of which nothing comes.
func notReady(try api.Try, end int) []api.Msg {
	list := []api.Msg{
		// Another batch.
		ready(try.Node, try.Batch+1, try.Attempt, end), ready(try.Node, try.Batch+256, try.Attempt, end), ready(try.Node, most, try.Attempt, end),
		// Another attempt.
		ready(try.Node, try.Batch, try.Attempt+1, end), ready(try.Node, try.Batch, try.Attempt+1<<32, end), ready(try.Node, try.Batch, most, end),
		// Both of them the wrong way round.
		ready(try.Node, try.Attempt+1, try.Batch+1, end),
		// Ends that don't go on, and ends that are too far.
		readyOf(try, try.From[0]-1), readyOf(try, 0), readyOf(try, try.From[0]+5), readyOf(try, try.From[0]+6), readyOf(try, 256),
		// Ends of another length.
		readyOf(try, end, end), readyOf(try, end, 0, 0, 0), readyOf(try, try.From[0], try.From[0]),
	}
	if try.Batch > 1 {
		list = append(list, ready(try.Node, try.Batch-1, try.Attempt, end))
	}
	if try.Attempt > 1 {
		list = append(list, ready(try.Node, try.Batch, try.Attempt-1, end))
	}
	for node := range 9 {
		if node != try.Node {
			list = append(list, ready(node, try.Batch, try.Attempt, end), ready(node, try.Batch, try.Attempt, try.From...))
		}
	}
	return list
}

func TestReadyOfWhichNothingComes(t *testing.T) {
	// Of the first try, which begins at 24.
	x := held(t, small(), 3, one(5, 20, 24, 9))
	try := x.begin(t)
	x.ignores(t, notReady(try, 26)...)
	x.sends(t, readyOf(try, 26), goes(1, 6, 10, 26))
	// Of a later one.
	try = x.begin(t)
	x.ignores(t, notReady(try, 27)...)
	x.sends(t, readyOf(try, 27))
}

func TestReadyOfATryThatIsNotReading(t *testing.T) {
	x := exampleTwo(t)
	// The first one goes, the second one is Ready: what it has told stands.
	for end := range 10 {
		x.ignores(t, ready(2, 1, 1, end), ready(1, 2, 2, end))
	}
	// Without a try.
	x = begun(t, small())
	x.ignores(t, ready(2, 1, 1, 4), ready(1, 1, 1, 4), ready(2, 1, 1, 0))
}

func TestReadyWithNothingRead(t *testing.T) {
	// The first one: it is given up, and the next tick begins another one.
	x := exampleOne(t)
	x.sends(t, ready(2, 1, 1, 0))
	x.wantTries(t)
	x.ignores(t, ready(2, 1, 1, 4), ready(2, 1, 1, 0))
	x.ticks(t, assign(1, 1, 2, 0))

	// A later one: those ahead of it stay.
	x = begun(t, wide(3))
	x.waiting(t, 4)
	x.waiting(t, 2)
	last := x.begin(t)
	x.sends(t, readyOf(last, 6))
	x.wantTries(t,
		api.Try{Batch: 1, Attempt: 1, Node: 1, Phase: 3, Ticks: 2, From: []int{0}, To: []int{4}},
		api.Try{Batch: 2, Attempt: 2, Node: 1, Phase: 2, From: []int{4}, To: []int{6}},
	)
	x.ignores(t, readyOf(last, 7))
	x.wantNote(t, one(0, 0, 0, 3))
	x.ticks(t, assign(1, 3, 4, 6))

	// In all of several partitions.
	x = held(t, broad(2), 2, note(2, []int{0, 1}, []int{3, 1}, 4))
	x.begin(t)
	x.sends(t, ready(3, 3, 5, 3, 1))
	x.wantTries(t)
}

func TestReadyInSeveralPartitions(t *testing.T) {
	for parts := 2; parts <= 4; parts++ {
		for at := range parts {
			from := make([]int, parts)
			for i := range from {
				from[i] = 10 + 20*i
			}
			with := func(step int) []int {
				ends := append([]int(nil), from...)
				ends[at] += step
				return ends
			}
			x := held(t, broad(parts), 2, note(2, make([]int, parts), from, 4))
			try := x.begin(t)
			// One end alone is too far, or falls, whatever the others are.
			for _, step := range []int{4, 5, -1, -10, 100} {
				if end := from[at] + step; end >= 0 && end <= 256 {
					x.ignores(t, readyOf(try, with(step)...))
					far := with(step)
					far[(at+1)%parts] += 2
					x.ignores(t, readyOf(try, far...))
				}
			}
			x.ignores(t, readyOf(try, from[1:]...), readyOf(try, from[:parts-1]...))
			if parts < 4 {
				x.ignores(t, readyOf(try, append(with(1), 0)...))
			}
			// One end alone that goes on is a batch, also just as far as it may be.
			step := 1 + 2*(at%2)
			x.sends(t, readyOf(try, with(step)...), goes(try.Node, 3, 5, with(step)...))
		}
		// All of them as far as they may be.
		x := held(t, broad(parts), 2, note(2, make([]int, parts), make([]int, parts), 4))
		try := x.begin(t)
		ends := make([]int, parts)
		for i := range ends {
			ends[i] = 3
		}
		x.sends(t, readyOf(try, ends...), goes(try.Node, 3, 5, ends...))
	}
}

func TestReadyAtTheLimitOfEachBatch(t *testing.T) {
	for batch := 1; batch <= 16; batch++ {
		p := small()
		p.Batch = batch
		x := begun(t, p)
		try := x.begin(t)
		x.ignores(t, readyOf(try, batch+1))
		x.sends(t, readyOf(try, batch), goes(2, 1, 1, batch))
		try = x.begin(t)
		x.ignores(t, readyOf(try, 2*batch+1))
		x.sends(t, readyOf(try, 2*batch))
	}
	// At the end of a partition.
	x := held(t, small(), 2, one(8, 240, 253, 8))
	try := x.begin(t)
	x.sends(t, readyOf(try, 256), goes(2, 9, 9, 256))
	x.sends(t, done(2, 9, 9, 256))
	try = x.begin(t)
	x.sends(t, readyOf(try, 256))
	x.wantTries(t)
}

// P19.3: MsgDone.

func TestDoneOfTheFirstTry(t *testing.T) {
	x := held(t, wide(1), 3, one(5, 20, 24, 9))
	x.begin(t)
	x.sends(t, ready(1, 6, 10, 27), goes(1, 6, 10, 27))
	writes := x.on.Writes()
	x.sends(t, done(1, 6, 10, 27))
	x.wantTries(t)
	x.wantNote(t, one(6, 24, 27, 10))
	if x.on.Writes() != writes+1 {
		t.Errorf("it has written %d blocks", x.on.Writes()-writes)
	}
	// Once more nothing comes of it.
	x.ignores(t, done(1, 6, 10, 27))
	x.ticks(t, assign(1, 7, 11, 27))
	x.ignores(t, done(1, 6, 10, 27))
}

func TestTheNextTryGoes(t *testing.T) {
	// One that is Ready goes, and only the next one.
	x := begun(t, wide(4))
	a, b, c := x.waiting(t, 4), x.waiting(t, 3), x.waiting(t, 2)
	x.sends(t, doneOf(a), goes(1, 2, 2, 7))
	x.wantTries(t,
		api.Try{Batch: 2, Attempt: 2, Node: 1, Phase: 3, From: []int{4}, To: []int{7}},
		api.Try{Batch: 3, Attempt: 3, Node: 1, Phase: 2, From: []int{7}, To: []int{9}},
	)
	x.sends(t, doneOf(b), goes(1, 3, 3, 9))
	x.sends(t, doneOf(c))
	x.wantTries(t)
	x.wantNote(t, one(3, 7, 9, 3))

	// One that is Reading doesn't go; its ticks stay.
	x = begun(t, wide(2))
	a = x.waiting(t, 4)
	x.begin(t)
	x.idle(t, 3)
	x.sends(t, doneOf(a))
	x.wantTries(t, api.Try{Batch: 2, Attempt: 2, Node: 1, Phase: 1, Ticks: 3, From: []int{4}})
	x.sends(t, ready(1, 2, 2, 5), goes(1, 2, 2, 5))
}

// notDone: messages near what the worker of a try that goes says, of which nothing comes.
func notDone(try api.Try) []api.Msg {
	end := try.To[0]
	list := []api.Msg{
		done(try.Node, try.Batch+1, try.Attempt, end), done(try.Node, try.Batch+256, try.Attempt, end), done(try.Node, most, try.Attempt, end),
		done(try.Node, try.Batch, try.Attempt+1, end), done(try.Node, try.Batch, try.Attempt+1<<32, end), done(try.Node, try.Batch, most, end),
		done(try.Node, try.Attempt+1, try.Batch+1, end),
		done(try.Node, try.Batch, try.Attempt, end+1), done(try.Node, try.Batch, try.Attempt, end-1), done(try.Node, try.Batch, try.Attempt, try.From...),
		done(try.Node, try.Batch, try.Attempt, 0), done(try.Node, try.Batch, try.Attempt, 256),
		done(try.Node, try.Batch, try.Attempt, end, 0), done(try.Node, try.Batch, try.Attempt, end, end),
	}
	if try.Batch > 1 {
		list = append(list, done(try.Node, try.Batch-1, try.Attempt, end))
	}
	if try.Attempt > 1 {
		list = append(list, done(try.Node, try.Batch, try.Attempt-1, end))
	}
	for node := range 9 {
		if node != try.Node {
			list = append(list, done(node, try.Batch, try.Attempt, end))
		}
	}
	return list
}

func TestDoneOfWhichNothingComes(t *testing.T) {
	x := held(t, small(), 3, one(5, 20, 24, 9))
	try := x.waiting(t, 2)
	x.ignores(t, notDone(try)...)
	// Neither of one that is Ready, which isn't the first.
	next := x.waiting(t, 3)
	x.ignores(t, notDone(next)...)
	x.ignores(t, doneOf(next))
	x.ignores(t, notDone(try)...)
	x.sends(t, doneOf(try), goes(2, 7, 11, 29))
	x.ignores(t, notDone(x.c.Tries()[0])...)
	x.sends(t, doneOf(next))
	x.wantNote(t, one(7, 26, 29, 11))
}

func TestDoneOfATryThatDoesNotGo(t *testing.T) {
	// The first one is Reading: where it ends isn't known.
	x := exampleOne(t)
	for end := range 6 {
		x.ignores(t, done(2, 1, 1, end))
	}
	// The second one is Reading.
	x = begun(t, wide(2))
	x.waiting(t, 4)
	x.begin(t)
	for end := 3; end < 9; end++ {
		x.ignores(t, done(1, 2, 2, end))
	}
	// There is none.
	x = begun(t, small())
	x.ignores(t, done(2, 1, 1, 4), done(1, 1, 1, 0), done(2, 1, 1, 0))
}

func TestDoneInSeveralPartitions(t *testing.T) {
	x := held(t, broad(4), 2, note(2, []int{0, 1, 2, 9}, []int{3, 1, 5, 9}, 4))
	try := x.begin(t)
	x.sends(t, readyOf(try, 6, 1, 6, 9), goes(3, 3, 5, 6, 1, 6, 9))
	for at := range 4 {
		for _, step := range []int{-1, 1} {
			ends := []int{6, 1, 6, 9}
			ends[at] += step
			x.ignores(t, done(3, 3, 5, ends...))
		}
	}
	x.ignores(t, done(3, 3, 5, 6, 1, 6), done(3, 3, 5, 1, 6, 9), done(3, 3, 5, 9, 6, 1, 6))
	x.sends(t, done(3, 3, 5, 6, 1, 6, 9))
	x.wantNote(t, note(3, []int{3, 1, 5, 9}, []int{6, 1, 6, 9}, 5))
}

func TestThePowerGoesInTheSaveOfACommit(t *testing.T) {
	x := exampleTwo(t)
	n, tries := x.c.Note(), x.c.Tries()
	x.arm(0)
	if list, e := x.take(t, done(2, 1, 1, 4)); len(list) != 0 || e != api.ErrDown {
		t.Errorf("Take is %v, %d", list, e)
	}
	// The batch isn't committed, and nothing else has changed.
	wantOver(t, x.c, x.on, n, tries)
	x.wantNote(t, one(0, 0, 0, 2))
	x.power(true)
	wantOver(t, x.c, x.on, n, tries)
	x.open(t)
	x.wantTries(t)
	x.wantNote(t, one(0, 0, 0, 2))
	// What the elder attempts say is too late.
	x.ignores(t, done(2, 1, 1, 4), ready(1, 2, 2, 6), ready(2, 1, 1, 4))
	x.ticks(t, assign(2, 1, 3, 0))
	x.ignores(t, done(2, 1, 1, 4), ready(2, 1, 1, 4))
}

func TestThePowerGoesBehindACommit(t *testing.T) {
	x := exampleTwo(t)
	x.arm(1)
	x.sends(t, done(2, 1, 1, 4), goes(1, 2, 2, 6))
	if _, e := x.take(t, done(1, 2, 2, 6)); e != api.ErrDown {
		t.Errorf("Take is %d", e)
	}
	x.power(true)
	x.open(t)
	x.wantNote(t, one(1, 0, 4, 2))
	x.ignores(t, done(1, 2, 2, 6))
	x.ticks(t, assign(2, 2, 3, 4))
}

// TestACommitWhoseSaveAnswersAnotherError: there is no generation left for its note.
func TestACommitWhoseSaveAnswersAnotherError(t *testing.T) {
	x := held(t, wide(2), most-1, one(5, 20, 24, 9))
	try := x.waiting(t, 3)
	x.ignores(t, doneOf(try), doneOf(try))
	x.wantTries(t, api.Try{Batch: 6, Attempt: 10, Node: 1, Phase: 3, From: []int{24}, To: []int{27}})
	// It is given up in its time, and none is begun behind it.
	x.idle(t, 7)
	x.ignores(t, doneOf(try))
	x.idle(t, 1)
	x.wantTries(t)
	x.ignores(t, doneOf(try))
	x.wantNote(t, one(5, 20, 24, 10))
	if x.c.Ended() {
		t.Error("it is ended")
	}
}

// Messages that come late, twice, or of which nothing ever comes.

func TestMessagesOfEveryOtherKind(t *testing.T) {
	for _, at := range []func(*testing.T) *pairing{exampleOne, exampleTwo, exampleThree} {
		x := at(t)
		for _, try := range x.c.Tries() {
			for from := range 9 {
				x.ignores(t, others(from, try.Batch, try.Attempt, 4)...)
				x.ignores(t, others(from, try.Batch, try.Attempt, try.From...)...)
				x.ignores(t, others(from, try.Batch, try.Attempt, 6)...)
			}
		}
	}
}

func TestMessagesThatComeTwice(t *testing.T) {
	x := begun(t, wide(2))
	a := x.begin(t)
	x.sends(t, readyOf(a, 4), goes(1, 1, 1, 4))
	x.ignores(t, readyOf(a, 4), readyOf(a, 4))
	b := x.begin(t)
	x.ignores(t, readyOf(a, 4))
	x.sends(t, readyOf(b, 8))
	x.ignores(t, readyOf(b, 8), readyOf(a, 4))
	x.sends(t, done(1, 1, 1, 4), goes(1, 2, 2, 8))
	x.ignores(t, done(1, 1, 1, 4), readyOf(a, 4), readyOf(b, 8))
	x.sends(t, done(1, 2, 2, 8))
	x.ignores(t, done(1, 1, 1, 4), done(1, 2, 2, 8), readyOf(a, 4), readyOf(b, 8))
	x.wantNote(t, one(2, 4, 8, 2))
}

func TestMessagesOfAttemptsThatWereGivenUp(t *testing.T) {
	x := begun(t, wide(2))
	a := x.waiting(t, 4)
	b := x.begin(t)
	x.idle(t, 7-x.c.Tries()[0].Ticks)
	x.ticks(t, assign(1, 1, 3, 0))
	late := []api.Msg{readyOf(a, 4), readyOf(a, 0), doneOf(a), readyOf(b, 8), readyOf(b, 4), done(1, 2, 2, 8)}
	x.ignores(t, late...)
	// The new one ends just where the old one did, or elsewhere.
	x.sends(t, ready(1, 1, 3, 4), goes(1, 1, 3, 4))
	x.ignores(t, late...)
	c := x.begin(t)
	x.ignores(t, late...)
	x.sends(t, readyOf(c, 7))
	x.ignores(t, late...)
	x.sends(t, done(1, 1, 3, 4), goes(1, 2, 4, 7))
	x.ignores(t, late...)
	x.sends(t, done(1, 2, 4, 7))
	x.ignores(t, late...)
	x.wantNote(t, one(2, 4, 7, 4))
}
