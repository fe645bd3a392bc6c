package net

import (
	"math"
	"slices"
	"testing"

	"reprise/api"
)

const (
	// mostRoom is the greatest room that a net may have.
	mostRoom = 4096
	// most is how many keys or pairs a message has at most.
	most = 64
	// lastKey is the greatest key.
	lastKey = 1<<64 - 1
	// fillEnd and fillKey are what stands in the spare room of what is handed in.
	fillEnd = 33
	fillKey = 77
	// room is how much of it there is.
	room = 80
)

// fillPair stands in the spare room of pairs that are handed in.
func fillPair() api.Pair { return pair(fillKey, 9) }

func pair(key uint64, bits uint64) api.Pair {
	return api.Pair{Key: key, Val: api.Value{Has: true, Bits: bits}}
}

// fillFlight is written over the flights of an answer.
func fillFlight() api.Flight { return api.Flight{Number: 99, Msg: ofEnds(8, fillEnd)} }

// kinds: all of them.
func kinds() []int { return []int{1, 2, 3, 4, 5, 6, 7, 8} }

// head: a message of this kind without what the kind asks for.
func head(kind int) api.Msg {
	return api.Msg{Kind: kind, From: 1, To: 3, Batch: 2, Attempt: 7}
}

func ofEnds(kind int, ends ...int) api.Msg {
	m := head(kind)
	m.Ends = ends
	return m
}

func ofKeys(keys ...uint64) api.Msg {
	m := head(4)
	m.Keys = keys
	return m
}

func ofPairs(pairs ...api.Pair) api.Msg {
	m := head(6)
	m.Pairs = pairs
	return m
}

func ofCode(kind int, code int) api.Msg {
	m := head(kind)
	m.Code = code
	return m
}

// rows: so many keys that rise by step.
func rows(from uint64, count int, step uint64) []uint64 {
	keys := []uint64{}
	for i := range uint64(count) {
		keys = append(keys, from+i*step)
	}
	return keys
}

// table: pairs of these keys.
func table(keys ...uint64) []api.Pair {
	pairs := []api.Pair{}
	for i, key := range keys {
		pairs = append(pairs, pair(key, uint64(i)*0x0101010101010101))
	}
	return pairs
}

// few: messages of a kind, the least and the greatest of what it asks for among them.
func few(kind int) []api.Msg {
	switch kind {
	case 1, 2, 3, 8:
		return []api.Msg{ofEnds(kind, 5, 0), ofEnds(kind, 0), ofEnds(kind, 256), ofEnds(kind, 256, 0, 127, 128)}
	case 4:
		return []api.Msg{ofKeys(1, 128), ofKeys(), ofKeys(0), ofKeys(lastKey), ofKeys(rows(3, most, 5)...)}
	case 6:
		return []api.Msg{ofPairs(pair(9, 1), pair(300, lastKey)), ofPairs(), ofPairs(pair(0, 0)), ofPairs(pair(lastKey, lastKey)), ofPairs(table(rows(3, most, 5)...)...)}
	}
	return []api.Msg{ofCode(kind, 130), ofCode(kind, 0), ofCode(kind, 1), ofCode(kind, 1000)}
}

// all: messages of all kinds, with nodes and numbers at their ends too.
func all() []api.Msg {
	list := []api.Msg{}
	for _, kind := range kinds() {
		list = append(list, few(kind)...)
		last := few(kind)[0]
		last.From, last.To, last.Batch, last.Attempt = 8, 0, 1<<40, 1<<40
		first := few(kind)[0]
		first.From, first.To, first.Batch, first.Attempt = 0, 8, 1, 1
		list = append(list, last, first)
	}
	return list
}

// numbered: a message that no other number makes, of each kind by turns.
func numbered(x int) api.Msg {
	m := few(1 + x%8)[x/8%4]
	m.Batch = x + 1
	return m
}

// with changes a message.
func with(m api.Msg, change func(m *api.Msg)) api.Msg {
	change(&m)
	return m
}

// wrongs: what is no message.
func wrongs() []api.Msg {
	ready, begin, apply, began := few(2)[0], few(4)[0], few(6)[0], few(5)[0]
	list := []api.Msg{
		{}, head(0), head(9), head(-1), head(1), head(2), head(3), head(8), head(math.MinInt), head(math.MaxInt),
		ofEnds(1, 1, 2, 3, 4, 5), ofEnds(1, -1), ofEnds(8, 257), ofEnds(3, 0, math.MinInt), ofEnds(3, math.MaxInt),
		ofKeys(1, 1), ofKeys(2, 1), ofKeys(rows(0, most+1, 1)...),
		ofPairs(pair(1, 1), pair(1, 1)), ofPairs(pair(2, 1), pair(1, 1)), ofPairs(api.Pair{Key: 1}), ofPairs(table(rows(0, most+1, 1)...)...),
		ofCode(5, -1), ofCode(5, 1001), ofCode(7, math.MinInt), ofCode(7, math.MaxInt),
	}
	for _, m := range []api.Msg{ready, begin, apply, began} {
		for _, x := range []int{-1, 9, math.MinInt, math.MaxInt} {
			list = append(list, with(m, func(m *api.Msg) { m.From = x }), with(m, func(m *api.Msg) { m.To = x }))
		}
		for _, x := range []int{0, -1, 1<<40 + 1, math.MinInt, math.MaxInt} {
			list = append(list, with(m, func(m *api.Msg) { m.Batch = x }), with(m, func(m *api.Msg) { m.Attempt = x }))
		}
	}
	return append(list,
		with(ready, func(m *api.Msg) { m.Code = 1 }), with(ready, func(m *api.Msg) { m.Keys = []uint64{1} }), with(ready, func(m *api.Msg) { m.Pairs = table(1) }),
		with(begin, func(m *api.Msg) { m.Ends = []int{1} }), with(apply, func(m *api.Msg) { m.Keys = []uint64{1} }), with(began, func(m *api.Msg) { m.Pairs = table(1) }))
}

func same(a api.Msg, b api.Msg) bool {
	return a.Kind == b.Kind && a.From == b.From && a.To == b.To && a.Batch == b.Batch && a.Attempt == b.Attempt && a.Code == b.Code &&
		slices.Equal(a.Ends, b.Ends) && slices.Equal(a.Keys, b.Keys) && slices.Equal(a.Pairs, b.Pairs)
}

func sameFlights(a []api.Flight, b []api.Flight) bool {
	return slices.EqualFunc(a, b, func(x api.Flight, y api.Flight) bool { return x.Number == y.Number && same(x.Msg, y.Msg) })
}

// roomy is a list with spare room behind it that is filled.
func roomy[E any](list []E, with E) []E {
	return append(slices.Clone(list), slices.Repeat([]E{with}, room)...)[:len(list)]
}

// roomyMsg is a message with such lists.
func roomyMsg(m api.Msg) api.Msg {
	m.Ends, m.Keys, m.Pairs = roomy(m.Ends, fillEnd), roomy(m.Keys, fillKey), roomy(m.Pairs, fillPair())
	return m
}

// wantRoomy tells if a list, or the spare room behind it, isn't what roomy made of old.
func wantRoomy[E comparable](t *testing.T, what string, list []E, old []E, with E) {
	t.Helper()
	if !slices.Equal(list, old) || !slices.Equal(list[len(list):len(list)+room], slices.Repeat([]E{with}, room)) {
		t.Errorf("%s: what was handed in has become %v", what, list[:len(list)+room])
	}
}

// wantRoomyMsg tells it of each list of a message.
func wantRoomyMsg(t *testing.T, what string, m api.Msg, old api.Msg) {
	t.Helper()
	wantRoomy(t, what, m.Ends, old.Ends, fillEnd)
	wantRoomy(t, what, m.Keys, old.Keys, fillKey)
	wantRoomy(t, what, m.Pairs, old.Pairs, fillPair())
}

// spoil writes over a list and over its spare room, and grows it.
func spoil[E any](list []E, with E) {
	all := list[:cap(list)]
	for i := range all {
		all[i] = with
	}
	_ = append(list, with)
}

func spoilMsg(m api.Msg) {
	spoil(m.Ends, fillEnd)
	spoil(m.Keys, fillKey)
	spoil(m.Pairs, fillPair())
}

func spoilFlights(list []api.Flight) {
	for _, f := range list {
		spoilMsg(f.Msg)
	}
	spoil(list, fillFlight())
}

// kept: the flights of an answer in memory of the test's own.
func kept(list []api.Flight) []api.Flight {
	out := []api.Flight{}
	for _, f := range list {
		f.Msg.Ends, f.Msg.Keys, f.Msg.Pairs = slices.Clone(f.Msg.Ends), slices.Clone(f.Msg.Keys), slices.Clone(f.Msg.Pairs)
		out = append(out, f)
	}
	return out
}

// made: New of a room that it takes.
func made(t *testing.T, most int) *Net {
	t.Helper()
	n, e := New(most)
	if n == nil || e != api.OK {
		t.Fatalf("New(%d) is %v, %d", most, n, e)
	}
	return n
}

// twin is a net beside what the chapter says of it: a row of the messages on their way. Each call holds the one to the other, what is behind it too.
type twin struct {
	n    *Net
	most int
	next int
	row  []api.Flight
}

func newTwin(t *testing.T, most int) *twin {
	t.Helper()
	w := &twin{n: made(t, most), most: most}
	w.check(t, "New")
	return w
}

// check holds Flights and Next to the row, the flights twice, the first answer written over.
func (w *twin) check(t *testing.T, what string) {
	t.Helper()
	for range 2 {
		list := w.n.Flights()
		if !sameFlights(list, w.row) {
			t.Fatalf("behind %s Flights() is %v, not %v", what, list, w.row)
		}
		spoilFlights(list)
	}
	if got := w.n.Next(); got != w.next {
		t.Fatalf("behind %s Next() is %d, not %d", what, got, w.next)
	}
}

// at: where in the row the message k is; -1, if it isn't there.
func (w *twin) at(k int) int {
	return slices.IndexFunc(w.row, func(f api.Flight) bool { return f.Number == k })
}

// put: what the words say of a message that gets the next number.
func (w *twin) put(m api.Msg) (int, api.Errno) {
	if len(w.row) >= w.most {
		return 0, api.ErrFlight
	}
	w.row = append(w.row, api.Flight{Number: w.next, Msg: m})
	w.next++
	return w.next - 1, api.OK
}

// send: m is a message, or isn't, as right says.
func (w *twin) send(t *testing.T, m api.Msg, right bool) (int, api.Errno) {
	t.Helper()
	want, code := 0, api.ErrMsg
	if right {
		want, code = w.put(m)
	}
	in := roomyMsg(m)
	got, e := w.n.Send(in)
	if got != want || e != code {
		t.Fatalf("Send(%v) is %d, %d, not %d, %d", m, got, e, want, code)
	}
	wantRoomyMsg(t, "Send", in, m)
	w.check(t, "Send")
	wantRoomyMsg(t, "Flights behind Send", in, m)
	spoilMsg(in)
	w.check(t, "Send, its message written over")
	return got, e
}

func (w *twin) deliver(t *testing.T, k int) api.Errno {
	t.Helper()
	want, code := api.Msg{}, api.ErrNone
	if i := w.at(k); i >= 0 {
		want, code = w.row[i].Msg, api.OK
		w.row = slices.Delete(w.row, i, i+1)
	}
	got, e := w.n.Deliver(k)
	if !same(got, want) || e != code {
		t.Fatalf("Deliver(%d) is %v, %d, not %v, %d", k, got, e, want, code)
	}
	spoilMsg(got)
	w.check(t, "Deliver")
	return e
}

func (w *twin) drop(t *testing.T, k int) api.Errno {
	t.Helper()
	code := api.ErrNone
	if i := w.at(k); i >= 0 {
		code = api.OK
		w.row = slices.Delete(w.row, i, i+1)
	}
	if e := w.n.Drop(k); e != code {
		t.Fatalf("Drop(%d) is %d, not %d", k, e, code)
	}
	w.check(t, "Drop")
	return code
}

func (w *twin) double(t *testing.T, k int) (int, api.Errno) {
	t.Helper()
	want, code := 0, api.ErrNone
	if i := w.at(k); i >= 0 {
		want, code = w.put(w.row[i].Msg)
	}
	got, e := w.n.Copy(k)
	if got != want || e != code {
		t.Fatalf("Copy(%d) is %d, %d, not %d, %d", k, got, e, want, code)
	}
	w.check(t, "Copy")
	return got, e
}

// sent sends so many messages, each another one.
func (w *twin) sent(t *testing.T, count int) {
	t.Helper()
	for range count {
		if _, e := w.send(t, numbered(w.next), true); e != api.OK {
			t.Fatalf("Send at %d messages is %d", len(w.row), e)
		}
	}
}

// wantNone: no message has this number for Deliver, Drop and Copy.
func (w *twin) wantNone(t *testing.T, k int) {
	t.Helper()
	if w.at(k) >= 0 {
		t.Fatalf("the message %d is on its way", k)
	}
	w.deliver(t, k)
	w.drop(t, k)
	w.double(t, k)
}

// farNumbers: numbers that no message of a test gets, what would be one if it were cut among them.
func farNumbers() []int {
	return []int{-1, -2, -mostRoom, 1 << 16, 1 << 32, 1<<32 + 1, 1 << 62, math.MinInt, math.MinInt + 1, math.MaxInt - 1, math.MaxInt}
}

// dice: numbers that look like chance, always the same ones.
type dice struct{ state uint64 }

func (d *dice) next() uint64 {
	d.state = d.state*6364136223846793005 + 1442695040888963407
	return d.state ^ d.state>>29
}

func (d *dice) below(n int) int { return int(d.next() >> 8 % uint64(n)) }

// keys: at most so many keys of any length that rise.
func (d *dice) keys(count int) []uint64 {
	keys := []uint64{}
	for range count {
		keys = append(keys, d.next()>>d.below(64))
	}
	slices.Sort(keys)
	return slices.Compact(keys)
}

// message: any message.
func (d *dice) message() api.Msg {
	kind := 1 + d.below(8)
	m := api.Msg{Kind: kind, From: d.below(9), To: d.below(9), Batch: 1 + d.below(1<<40), Attempt: 1 + d.below(1<<40)}
	switch kind {
	case 4:
		m.Keys = d.keys(d.below(most + 1))
	case 5, 7:
		m.Code = d.below(1001)
	case 6:
		for _, key := range d.keys(d.below(most + 1)) {
			m.Pairs = append(m.Pairs, pair(key, d.next()))
		}
	default:
		for range 1 + d.below(4) {
			m.Ends = append(m.Ends, d.below(257))
		}
	}
	return m
}
