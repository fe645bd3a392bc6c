package store

import (
	"slices"
	"testing"

	"reprise/api"
)

// P13.7

// change is a Begin or an Apply that writes.
type change struct {
	name string
	from func(t *testing.T) *pairing
	call func(t *testing.T, p *pairing, want api.Errno)
}

func changes() []change {
	return []change{
		{"the first Begin", func(t *testing.T) *pairing { return newPairing(t, 16, 1) },
			func(t *testing.T, p *pairing, want api.Errno) { p.begin(t, want, 1, 4, 2, 9) }},
		{"Begin of a further attempt", shelves,
			func(t *testing.T, p *pairing, want api.Errno) { p.begin(t, want, 4, 8, 2, 60) }},
		{"Begin of the next batch", shelves,
			func(t *testing.T, p *pairing, want api.Errno) { p.begin(t, want, 5, 1, 1, 2, 20) }},
		{"Begin that takes all away", func(t *testing.T) *pairing {
			p := newPairing(t, 16, 1)
			p.fill(t, 1, rows(0, most, 1), 1)
			return p
		}, func(t *testing.T, p *pairing, want api.Errno) { p.begin(t, want, 1, 2) }},
		{"the first Apply", func(t *testing.T) *pairing {
			p := newPairing(t, 16, 1)
			p.begin(t, api.OK, 1, 4, 2, 9)
			return p
		}, func(t *testing.T, p *pairing, want api.Errno) { p.apply(t, want, 1, 4, pairs(2, 3)...) }},
		{"Apply once more, with something else", shelves,
			func(t *testing.T, p *pairing, want api.Errno) {
				p.apply(t, want, 4, 7, pairs(1, 9, 2, 9, 3, 9, 10, 9, 30, 9, 50, 9)...)
			}},
		{"Apply to all pages of a full store", func(t *testing.T) *pairing {
			p := crowded(t, whole)
			p.begin(t, api.OK, 3, 1, rows(1000, 48, 2)...)
			return p
		}, func(t *testing.T, p *pairing, want api.Errno) { p.apply(t, want, 3, 1, each(rows(1000, 48, 2), 5)...) }},
		{"Begin that reverts all pages of a full store", func(t *testing.T) *pairing {
			p := crowded(t, whole)
			p.fill(t, 3, rows(1000, 48, 2), 5)
			return p
		}, func(t *testing.T, p *pairing, want api.Errno) { p.begin(t, want, 3, 2, rows(1000, 48, 2)...) }},
	}
}

// writesOf: how many blocks a change writes.
func writesOf(t *testing.T, c change) int {
	t.Helper()
	p := c.from(t)
	writes := p.on.Writes()
	c.call(t, p, api.OK)
	p.hold(t)
	p.openAnew(t)
	return p.on.Writes() - writes
}

func TestThePowerGoesAtEachWrite(t *testing.T) {
	for i, want := range []int{2, 4, 2, 2, 2, 5, 7, 8} {
		c := changes()[i]
		all := writesOf(t, c)
		if all != want {
			t.Errorf("%s writes %d blocks, not %d", c.name, all, want)
		}
		for n := range all {
			p := c.from(t)
			was := p.state.copied()
			p.arm(n)
			c.call(t, p, api.ErrDown)
			wantEnded(t, p.Store, true)
			p.look(t)
			p.turn(true)
			wantRefused(t, p.Store, api.ErrDown)
			// The model's state is that of before still: told beside it, so that it is held to this too.
			if !same(p.mark, was.mark) || !slices.Equal(p.model.cells, was.cells) {
				t.Fatalf("%s: the model's state has changed", c.name)
			}
			p.openAnew(t)
			c.call(t, p, api.OK)
			p.hold(t)
			p.openAnew(t)
		}
		// So many writes are all that it needs.
		p := c.from(t)
		p.arm(all)
		c.call(t, p, api.OK)
		p.turn(false)
		p.turn(true)
		p.openAnew(t)
	}
}

// TestThePowerGoesTimeAndAgain: at each write, and at each write of the one behind it.
func TestThePowerGoesTimeAndAgain(t *testing.T) {
	for first := range 4 {
		for other := range 5 {
			p := shelves(t)
			p.arm(first)
			p.begin(t, api.ErrDown, 4, 8, 2, 60)
			p.turn(true)
			p.openAnew(t)
			p.arm(other)
			want := api.ErrDown
			if other == 4 {
				want = api.OK
			}
			p.begin(t, want, 4, 9, 3)
			p.turn(true)
			p.openAnew(t)
			p.begin(t, api.OK, 4, 10, 1, 2)
			p.apply(t, api.OK, 4, 10, pairs(1, 1, 2, 2)...)
			p.hold(t)
			wantQuery(t, p.Store, 1, 4, val(6), api.OK)
			wantQuery(t, p.Store, 2, 4, val(2), api.OK)
			wantQuery(t, p.Store, 50, 4, val(6), api.OK)
		}
	}
}

// P13.8

// queries: what a store answers for each key behind the batch ahead and behind this one.
func queries(t *testing.T, s *Store, keys []uint64, batch int) []api.Value {
	t.Helper()
	var list []api.Value
	for _, key := range keys {
		for _, committed := range []int{batch - 1, batch} {
			v, e := s.Query(key, committed)
			if e != api.OK {
				t.Fatalf("Query(%d, %d) is %d", key, committed, e)
			}
			list = append(list, v)
		}
	}
	return list
}

// attempts plays attempts of one batch: each is opened, and applied wholly, in part, in two parts, or not at all.
func attempts(t *testing.T, d *dice, p *pairing, batch int, count int, keys []uint64) {
	t.Helper()
	for attempt := 1; attempt <= count; attempt++ {
		touched := d.some(keys)
		p.begin(t, api.OK, batch, attempt, touched...)
		table := []api.Pair{}
		for _, key := range touched {
			table = append(table, api.Pair{Key: key, Val: val(d.bits(p.model.kind))})
		}
		switch d.below(4) {
		case 0:
			p.apply(t, api.OK, batch, attempt, table...)
		case 1:
			p.apply(t, api.OK, batch, attempt, d.table(p.model.kind, touched)...)
		case 2:
			p.apply(t, api.OK, batch, attempt, d.table(p.model.kind, touched)...)
			p.apply(t, api.OK, batch, attempt, d.table(p.model.kind, touched)...)
		}
		if d.below(5) == 0 {
			p.openAnew(t)
		}
	}
}

func TestABatchThatComesAgain(t *testing.T) {
	keys := append(rows(0, 50, 1), lastKey)
	for seed := range 60 {
		d := &dice{uint64(seed)}
		kind := 1 + seed%4
		p := newPairing(t, 16, kind)
		for batch := 1; batch < 5; batch++ {
			touched := d.some(keys)
			last := d.table(kind, touched)
			alone := p.twin(t)
			alone.begin(t, api.OK, batch, 99, touched...)
			alone.apply(t, api.OK, batch, 99, last...)
			alone.hold(t)
			attempts(t, d, p, batch, d.below(5), keys)
			p.begin(t, api.OK, batch, 99, touched...)
			p.apply(t, api.OK, batch, 99, last...)
			p.hold(t)
			if got, want := queries(t, p.Store, keys, batch), queries(t, alone.Store, keys, batch); !slices.Equal(got, want) {
				t.Fatalf("seed %d, batch %d: behind other attempts %v, alone %v", seed, batch, got, want)
			}
		}
	}
}

// TestAnAttemptWithFewerKeysAndWithOthers: the cells of keys that only the first one touched are as they were.
func TestAnAttemptWithFewerKeysAndWithOthers(t *testing.T) {
	p := newPairing(t, 16, 2)
	p.fill(t, 1, []uint64{1, 2, 3}, 10)
	p.begin(t, api.OK, 2, 1, 1, 2, 7)
	p.apply(t, api.OK, 2, 1, pairs(1, 5, 2, 5, 7, 5)...)
	p.begin(t, api.OK, 2, 2, 2, 3, 8)
	p.apply(t, api.OK, 2, 2, pairs(2, 1, 3, 1, 8, 1)...)
	for _, c := range []struct {
		key         uint64
		ahead, then api.Value
	}{{1, val(10), val(10)}, {2, val(10), val(11)}, {3, val(10), val(11)}, {7, nothing, nothing}, {8, nothing, val(1)}} {
		wantQuery(t, p.Store, c.key, 1, c.ahead, api.OK)
		wantQuery(t, p.Store, c.key, 2, c.then, api.OK)
	}
	// The first one comes late: it changes nothing.
	p.refused(t, func() {
		p.apply(t, api.ErrFenced, 2, 1, pairs(1, 5, 2, 5, 7, 5)...)
		p.begin(t, api.ErrFenced, 2, 1, 1, 2, 7)
	})
	p.hold(t)
	// The next batch goes on from there.
	p.fill(t, 3, []uint64{1, 2, 7}, 100)
	wantQuery(t, p.Store, 1, 3, val(110), api.OK)
	wantQuery(t, p.Store, 2, 3, val(111), api.OK)
	wantQuery(t, p.Store, 7, 3, val(100), api.OK)
	wantQuery(t, p.Store, 2, 2, val(11), api.OK)
	p.hold(t)
}

// P13.9

func TestWhatIsHandedInIsNotKept(t *testing.T) {
	p := newPairing(t, 16, 1)
	keys, table := []uint64{2, 9, 40}, pairs(2, 3, 9, 4)
	p.model.begin(1, 4, keys)
	p.model.apply(1, 4, table)
	if p.Begin(1, 4, keys) != api.OK {
		t.Error("Begin")
	}
	spoil(keys, 7)
	if p.Apply(1, 4, table) != api.OK {
		t.Error("Apply")
	}
	spoil(table, api.Pair{Key: 7, Val: val(7)})
	p.hold(t)
	p.refused(t, func() { p.begin(t, api.OK, 1, 4, 2, 9, 40) })
	p.begin(t, api.OK, 1, 5, 9)
	p.hold(t)
}

func TestWhatIsAnsweredIsNewMemory(t *testing.T) {
	p := shelves(t)
	for range 3 {
		first, _ := p.Mark()
		other, _ := p.Mark()
		cells, _ := p.Cells()
		more, _ := p.Cells()
		spoil(first.Keys, 7)
		spoil(cells, api.Cell{Key: 7, Cur: val(7), Batch: 7})
		if !same(other, p.mark) || !slices.Equal(more, p.sorted()) {
			t.Errorf("two answers share memory: %v, %v", other, more)
		}
		p.hold(t)
		p.begin(t, api.OK, 4, p.mark.Attempt+1, 1, 2, 60)
		p.apply(t, api.OK, 4, p.mark.Attempt, pairs(1, 1, 60, 2)...)
		// An answer stays what it was, whatever the store does.
		if !same(other, marked(4, p.mark.Attempt-1, other.Keys...)) {
			t.Errorf("an answer has become %v", other)
		}
		p.hold(t)
	}
}

// TestAnswersStay: through later calls.
func TestAnswersStay(t *testing.T) {
	p := newPairing(t, 16, 1)
	marks, wantMarks, cells, wantCells := []api.Mark{}, []api.Mark{}, [][]api.Cell{}, [][]api.Cell{}
	for batch := 1; batch < 20; batch++ {
		p.fill(t, batch, rows(uint64(batch), 20, 3), 1)
		m, _ := p.Mark()
		c, _ := p.Cells()
		_ = append(m.Keys, 7)
		_ = append(c, api.Cell{Key: 7})
		marks, wantMarks = append(marks, m), append(wantMarks, p.mark)
		cells, wantCells = append(cells, c), append(wantCells, p.sorted())
	}
	for i := range marks {
		if !same(marks[i], wantMarks[i]) || !slices.Equal(cells[i], wantCells[i]) {
			t.Errorf("answer %d has become %v, %v", i, marks[i], cells[i])
		}
	}
}

// All of it together, held to the model step by step.

// stroll plays one step that the dice pick, and answers what it was answered.
func stroll(t *testing.T, d *dice, p *pairing, keys []uint64) api.Errno {
	t.Helper()
	batch, attempt := p.mark.Batch+d.below(3)-d.below(2), max(p.mark.Attempt, d.below(4))+d.below(3)-d.below(2)
	if d.below(2) == 0 {
		batch, attempt = p.mark.Batch, p.mark.Attempt
	}
	if d.below(3) == 0 {
		p.arm(d.below(5))
	}
	touched := p.mark.Keys
	if d.below(10) == 0 {
		touched = keys
	}
	table := d.table(p.model.kind, touched)
	if d.below(2) == 0 {
		touched = d.some(keys)
	}
	var want api.Errno
	if d.below(2) == 0 {
		want = p.model.begin(batch, attempt, touched)
		wantBegin(t, p.Store, batch, attempt, touched, want)
	} else {
		want = p.model.apply(batch, attempt, table)
		wantApply(t, p.Store, batch, attempt, table, want)
	}
	p.hold(t)
	if p.model.ended || d.below(12) == 0 {
		p.turn(true)
		p.openAnew(t)
	}
	p.arm(-1)
	return want
}

func TestManyStepsAgainstTheModel(t *testing.T) {
	seen := map[api.Errno]int{}
	for seed := range 15 {
		d := &dice{uint64(1000 + seed)}
		keys := rows(0, 10, 7)
		switch seed % 3 {
		case 1:
			keys = rows(lastKey-129, most, 2)
		case 2:
			keys = rows(100, most, 5)
		}
		p := newPairing(t, 16+seed%3, 1+seed%4)
		for step := range 120 {
			// Other keys from time to time, so that the store gets full.
			if seed%3 == 2 && step%30 == 29 {
				keys = rows(100+uint64(step), most, 5)
			}
			seen[stroll(t, d, p, keys)]++
			if t.Failed() {
				t.Fatalf("seed %d, step %d", seed, step)
			}
		}
	}
	for _, e := range []api.Errno{api.OK, api.ErrArg, api.ErrFenced, api.ErrTwice, api.ErrAhead, api.ErrKey, api.ErrRoom, api.ErrDown} {
		if seen[e] == 0 {
			t.Errorf("no step was answered %d", e)
		}
	}
}

// P1

// TestEachCallEndsBehindSomebodyElsesWrites: nothing is promised of what they answer, but that they do.
func TestEachCallEndsBehindSomebodyElsesWrites(t *testing.T) {
	texts := []string{
		"", "\x00", "\x00\x00\x00", "no page", markText(marked(4, 7, 1, 2)), markText(marked(top, top, rows(0, most, 1)...)),
		cellsText(at(1, of(nothing, nothing, 4)), at(2, of(val(oddNaN), val(1), top))), cellsText(at(2, of(nothing, val(1), 9)), at(1, of(nothing, val(1), 9))),
	}
	for _, text := range texts {
		for block := range 18 {
			p := shelves(t)
			p.on.Write(block, []byte(text))
			for _, batch := range []int{0, 1, 4, 5, top, top + 1} {
				for _, attempt := range []int{0, 7, 8, top} {
					p.Apply(batch, attempt, pairs(1, 1, 2, 1))
					p.Begin(batch, attempt, []uint64{1, 2})
					p.Apply(batch, attempt, pairs(1, 1, 2, 1))
					p.Query(1, batch)
				}
			}
			p.Mark()
			p.Cells()
			p.Used()
			p.Ended()
		}
	}
}
