package msg

import (
	"bytes"
	"math"
	"slices"
	"testing"

	"reprise/api"
)

const (
	// top is the greatest batch and the greatest attempt.
	top = 1 << 40
	// lastNode is the greatest node.
	lastNode = 8
	// lastEnd is the greatest end.
	lastEnd = 256
	// mostEnds and most are how many ends, and how many keys or pairs, a message has at most.
	mostEnds = 4
	most     = 64
	// lastCode is the greatest code.
	lastCode = 1000
	// lastKey is the greatest key.
	lastKey = 1<<64 - 1
	// filler, fillEnd and fillKey are what stands in the spare room of what is handed in.
	filler  = 0xa5
	fillEnd = 33
	fillKey = 77
	// room is how much of it there is.
	room = 80
)

// fillPair stands in the spare room of pairs that are handed in.
func fillPair() api.Pair { return pair(fillKey, 9) }

func pair(key uint64, bits uint64) api.Pair {
	return api.Pair{Key: key, Val: api.Value{Has: true, Bits: bits}}
}

// kinds: all of them.
func kinds() []int { return []int{1, 2, 3, 4, 5, 6, 7, 8} }

// The kinds by what they ask for.
func kindsOfEnds() []int { return []int{1, 2, 3, 8} }
func kindsOfCode() []int { return []int{5, 7} }

const (
	kindOfKeys  = 4
	kindOfPairs = 6
)

// noKinds: numbers that are no kind, what would be one if it were cut among them.
func noKinds() []int {
	return []int{0, 9, -1, 10, -2, -8, 127, 128, 255, 256, 256 + 1, 1<<16 + 2, 1<<32 + 1, 1<<32 + 8, 1 << 62, math.MinInt, math.MinInt + 1, math.MaxInt - 1, math.MaxInt}
}

// noNodes: numbers that are no node.
func noNodes() []int {
	return []int{-1, 9, 10, -2, 255, 256, 256 + 1, 1<<16 + 2, 1 << 32, 1<<32 + 1, top, math.MinInt, math.MinInt + 1, math.MaxInt - 1, math.MaxInt}
}

// counts: numbers that a batch and an attempt may be, those at which a number's length rises among them.
func counts() []int {
	return []int{1, 2, 127, 128, 300, 1<<14 - 1, 1 << 14, 1 << 21, 1<<31 - 1, 1 << 31, 1 << 32, 1<<35 - 1, 1 << 35, top - 1, top}
}

// noCounts: numbers that neither is.
func noCounts() []int {
	return []int{0, -1, -2, -top, top + 1, top + 2, 2 * top, 1 << 62, 1<<62 + 1, math.MinInt, math.MinInt + 1, math.MaxInt - 1, math.MaxInt}
}

// greatCounts: numbers that Decode takes for no count, as they stand in bytes.
func greatCounts() []uint64 {
	return []uint64{top + 1, top + 2, top + 128, 2 * top, 1 << 62, 1<<63 - 1, 1 << 63, 1<<63 + 1, 1<<64 - 2, 1<<64 - 1}
}

// someKeys: keys at which the length of a number rises, and the ends.
func someKeys() []uint64 {
	list := []uint64{0, 1, 5}
	for bits := 7; bits < 64; bits += 7 {
		list = append(list, 1<<bits-1, 1<<bits)
	}
	return append(list, lastKey-1, lastKey)
}

// someBits: words of all kinds.
func someBits() []uint64 {
	return []uint64{0, 1, 127, 128, 255, 256, 0x8000000000000000, 0x7ff8000000000001, 0x7ff0000000000001, 0x0123456789abcdef, 1<<63 - 1, lastKey}
}

// rows: so many keys that rise by step.
func rows(from uint64, count int, step uint64) []uint64 {
	keys := []uint64{}
	for i := range uint64(count) {
		keys = append(keys, from+i*step)
	}
	return keys
}

// table: pairs of these keys.
func table(keys ...uint64) []api.Pair {
	pairs := []api.Pair{}
	for i, key := range keys {
		pairs = append(pairs, pair(key, uint64(i)*0x0101010101010101))
	}
	return pairs
}

// notRising: lists of keys that don't rise.
func notRising() [][]uint64 {
	last := rows(0, most, 3)
	last[most-1] = last[most-2]
	first := rows(10, most, 1)
	first[0] = 11
	return [][]uint64{
		{0, 0}, {5, 5}, {5, 4}, {5, 2}, {1, 0}, {lastKey, lastKey}, {lastKey, lastKey - 1}, {lastKey, 0}, {2, 5, 5}, {5, 5, 9}, {2, 9, 5}, {9, 2, 5}, {9, 5, 2}, {5, 9, 5}, {1 << 63, 1<<63 - 1}, {1 << 32, 1}, {256, 255}, last, first,
	}
}

// head: a message of this kind without what the kind asks for.
func head(kind int) api.Msg {
	return api.Msg{Kind: kind, From: 1, To: 3, Batch: 2, Attempt: 7}
}

func ofEnds(kind int, ends ...int) api.Msg {
	m := head(kind)
	m.Ends = ends
	return m
}

func ofKeys(keys ...uint64) api.Msg {
	m := head(kindOfKeys)
	m.Keys = keys
	return m
}

func ofPairs(pairs ...api.Pair) api.Msg {
	m := head(kindOfPairs)
	m.Pairs = pairs
	return m
}

func ofCode(kind int, code int) api.Msg {
	m := head(kind)
	m.Code = code
	return m
}

// plain: a message of each kind with something of what it asks for.
func plain(kind int) api.Msg {
	switch kind {
	case 1, 2, 3, 8:
		return ofEnds(kind, 5, 0)
	case 4:
		return ofKeys(1, 128)
	case 6:
		return ofPairs(pair(9, 1), pair(300, lastKey))
	}
	return ofCode(kind, 130)
}

// few: messages of a kind, the least and the greatest of what it asks for among them.
func few(kind int) []api.Msg {
	list := []api.Msg{plain(kind)}
	switch kind {
	case 1, 2, 3, 8:
		list = append(list, ofEnds(kind, 0), ofEnds(kind, lastEnd), ofEnds(kind, lastEnd, 0, 127, 128))
	case 4:
		list = append(list, ofKeys(), ofKeys(0), ofKeys(lastKey), ofKeys(someKeys()...), ofKeys(rows(0, most, 1)...))
	case 6:
		list = append(list, ofPairs(), ofPairs(pair(0, 0)), ofPairs(pair(lastKey, lastKey)), ofPairs(table(someKeys()...)...), ofPairs(table(rows(0, most, 1)...)...))
	default:
		list = append(list, ofCode(kind, 0), ofCode(kind, 1), ofCode(kind, lastCode))
	}
	return list
}

// rising: whether each key is greater than all ahead of it.
func rising(keys []uint64) bool {
	for i := range keys {
		for _, ahead := range keys[:i] {
			if ahead >= keys[i] {
				return false
			}
		}
	}
	return true
}

// isMessage: whether m is a message, written as the chapter's words go.
func isMessage(m api.Msg) bool {
	if m.Kind < 1 || m.Kind > 8 || m.From < 0 || m.From > lastNode || m.To < 0 || m.To > lastNode {
		return false
	}
	if m.Batch < 1 || m.Batch > top || m.Attempt < 1 || m.Attempt > top {
		return false
	}
	ends, keys, pairs := len(m.Ends), len(m.Keys), len(m.Pairs)
	switch m.Kind {
	case 1, 2, 3, 8:
		least, greatest := 0, 0
		for _, end := range m.Ends {
			least, greatest = min(least, end), max(greatest, end)
		}
		return ends >= 1 && ends <= mostEnds && least == 0 && greatest <= lastEnd && keys == 0 && pairs == 0 && m.Code == 0
	case 4:
		return keys <= most && rising(m.Keys) && ends == 0 && pairs == 0 && m.Code == 0
	case 6:
		list := []uint64{}
		for _, p := range m.Pairs {
			if !p.Val.Has {
				return false
			}
			list = append(list, p.Key)
		}
		return pairs <= most && rising(list) && ends == 0 && keys == 0 && m.Code == 0
	}
	return m.Code >= 0 && m.Code <= lastCode && ends == 0 && keys == 0 && pairs == 0
}

// number is x as chapter 2 writes it, made by division.
func number(x uint64) []byte {
	b := []byte{}
	for ; x/128 > 0; x /= 128 {
		b = append(b, byte(128+x%128))
	}
	return append(b, byte(x))
}

// numbers: each as chapter 2 writes it, one behind the other.
func numbers(list ...uint64) []byte {
	b := []byte{}
	for _, x := range list {
		b = append(b, number(x)...)
	}
	return b
}

// word is x as chapter 2 writes a word, made by division.
func word(x uint64) []byte {
	b := []byte{}
	for range 8 {
		b = append(b, byte(x%256))
		x /= 256
	}
	return b
}

// start: the five numbers that a message's bytes begin with.
func start(m api.Msg) []byte {
	return numbers(uint64(m.Kind), uint64(m.From), uint64(m.To), uint64(m.Batch), uint64(m.Attempt))
}

// form: what the chapter calls a message's bytes; what they say need be no message.
func form(m api.Msg) []byte {
	b := start(m)
	switch m.Kind {
	case 4:
		return append(append(b, number(uint64(len(m.Keys)))...), numbers(m.Keys...)...)
	case 5, 7:
		return append(b, number(uint64(m.Code))...)
	case 6:
		b = append(b, number(uint64(len(m.Pairs)))...)
		for _, p := range m.Pairs {
			b = append(append(b, number(p.Key)...), word(p.Val.Bits)...)
		}
		return b
	}
	b = append(b, number(uint64(len(m.Ends)))...)
	for _, end := range m.Ends {
		b = append(b, number(uint64(end))...)
	}
	return b
}

// taken: chapter 2's Take, written as its words go.
func taken(b []byte) (uint64, []byte, api.Errno) {
	x, factor := uint64(0), uint64(1)
	for i, c := range b {
		if i == 9 && c > 1 || c == 0 && i > 0 {
			return 0, nil, api.ErrForm
		}
		x += uint64(c%128) * factor
		factor *= 128
		if c < 128 {
			return x, b[i+1:], api.OK
		}
	}
	return 0, nil, api.ErrShort
}

// takenUpTo: taken, and an error if the number is above a limit.
func takenUpTo(b []byte, limit uint64, above api.Errno) (uint64, []byte, api.Errno) {
	x, left, e := taken(b)
	if e == api.OK && x > limit {
		return 0, nil, above
	}
	return x, left, e
}

// read: what P15.2 asks of bytes, written as its words go.
func read(b []byte) (api.Msg, api.Errno) {
	kind, b, e := taken(b)
	if e != api.OK {
		return api.Msg{}, e
	}
	if kind < 1 || kind > 8 {
		return api.Msg{}, api.ErrMsg
	}
	m := api.Msg{Kind: int(kind)}
	for _, field := range []*int{&m.From, &m.To, &m.Batch, &m.Attempt} {
		var x uint64
		if x, b, e = takenUpTo(b, top, api.ErrForm); e != api.OK {
			return api.Msg{}, e
		}
		*field = int(x)
	}
	if b, e = readAsked(&m, b); e != api.OK {
		return api.Msg{}, e
	}
	if len(b) > 0 {
		return api.Msg{}, api.ErrTail
	}
	if !isMessage(m) {
		return api.Msg{}, api.ErrMsg
	}
	return m, api.OK
}

// readAsked reads what m's kind asks for.
func readAsked(m *api.Msg, b []byte) ([]byte, api.Errno) {
	if m.Kind == 5 || m.Kind == 7 {
		x, left, e := takenUpTo(b, top, api.ErrForm)
		m.Code = int(x)
		return left, e
	}
	limit, greatest := uint64(mostEnds), uint64(1<<62)
	if m.Kind == 4 || m.Kind == 6 {
		limit, greatest = most, lastKey
	}
	many, b, e := takenUpTo(b, limit, api.ErrLong)
	for i := uint64(0); i < many && e == api.OK; i++ {
		var x uint64
		if x, b, e = takenUpTo(b, greatest, api.ErrForm); e != api.OK {
			return nil, e
		}
		switch m.Kind {
		case 4:
			m.Keys = append(m.Keys, x)
		case 6:
			if len(b) < 8 {
				return nil, api.ErrShort
			}
			bits := uint64(0)
			for at := 7; at >= 0; at-- {
				bits = bits*256 + uint64(b[at])
			}
			m.Pairs, b = append(m.Pairs, pair(x, bits)), b[8:]
		default:
			m.Ends = append(m.Ends, int(x))
		}
	}
	return b, e
}

func same(a api.Msg, b api.Msg) bool {
	return a.Kind == b.Kind && a.From == b.From && a.To == b.To && a.Batch == b.Batch && a.Attempt == b.Attempt && a.Code == b.Code &&
		slices.Equal(a.Ends, b.Ends) && slices.Equal(a.Keys, b.Keys) && slices.Equal(a.Pairs, b.Pairs)
}

// roomy is a list with spare room behind it that is filled.
func roomy[E any](list []E, with E) []E {
	return append(slices.Clone(list), slices.Repeat([]E{with}, room)...)[:len(list)]
}

// roomyMsg is a message with such lists.
func roomyMsg(m api.Msg) api.Msg {
	m.Ends, m.Keys, m.Pairs = roomy(m.Ends, fillEnd), roomy(m.Keys, fillKey), roomy(m.Pairs, fillPair())
	return m
}

// wantRoomy tells if a list, or the spare room behind it, isn't what roomy made of old.
func wantRoomy[E comparable](t *testing.T, what string, list []E, old []E, with E) {
	t.Helper()
	if !slices.Equal(list, old) || !slices.Equal(list[len(list):len(list)+room], slices.Repeat([]E{with}, room)) {
		t.Errorf("%s: what was handed in has become %v", what, list[:len(list)+room])
	}
}

// wantRoomyMsg tells it of each list of a message.
func wantRoomyMsg(t *testing.T, what string, m api.Msg, old api.Msg) {
	t.Helper()
	wantRoomy(t, what, m.Ends, old.Ends, fillEnd)
	wantRoomy(t, what, m.Keys, old.Keys, fillKey)
	wantRoomy(t, what, m.Pairs, old.Pairs, fillPair())
}

// spoil writes over a list and over its spare room, and grows it.
func spoil[E any](list []E, with E) {
	all := list[:cap(list)]
	for i := range all {
		all[i] = with
	}
	_ = append(list, with)
}

func spoilMsg(m api.Msg) {
	spoil(m.Ends, fillEnd)
	spoil(m.Keys, fillKey)
	spoil(m.Pairs, fillPair())
}

// wantSound holds Sound to an answer.
func wantSound(t *testing.T, m api.Msg, want bool) {
	t.Helper()
	in := roomyMsg(m)
	if got := Sound(in); got != want {
		t.Errorf("Sound(%v) is %t", m, got)
	}
	wantRoomyMsg(t, "Sound", in, m)
	if got := Sound(m); got != want {
		t.Errorf("Sound(%v) without spare room is %t", m, got)
	}
}

func wantEncode(t *testing.T, m api.Msg, want []byte, code api.Errno) {
	t.Helper()
	in := roomyMsg(m)
	first, e := Encode(in)
	wantRoomyMsg(t, "Encode", in, m)
	if !bytes.Equal(first, want) || e != code {
		t.Errorf("Encode(%v) is %x, %d, not %x, %d", m, first, e, want, code)
	}
	second, _ := Encode(in)
	spoil(first, filler)
	third, e := Encode(in)
	wantRoomyMsg(t, "Encode, its answer written over", in, m)
	spoilMsg(in)
	if !bytes.Equal(second, want) || !bytes.Equal(third, want) || e != code {
		t.Errorf("Encode(%v), its answer written over, is %x and %x", m, second, third)
	}
}

func wantDecode(t *testing.T, b []byte, want api.Msg, code api.Errno) {
	t.Helper()
	in := roomy(b, filler)
	first, e := Decode(in)
	wantRoomy(t, "Decode", in, b, filler)
	if !same(first, want) || e != code {
		t.Errorf("Decode(%x) is %v, %d, not %v, %d", b, first, e, want, code)
	}
	second, _ := Decode(in)
	spoilMsg(first)
	third, _ := Decode(in)
	wantRoomy(t, "Decode, its answer written over", in, b, filler)
	spoil(in, filler)
	if !same(second, want) || !same(third, want) {
		t.Errorf("Decode(%x): the answer hangs on the bytes or on the other answer", b)
	}
	if tight, e := Decode(slices.Clip(slices.Clone(b))); !same(tight, want) || e != code {
		t.Errorf("Decode(%x) without spare room is %v, %d", b, tight, e)
	}
}

// wantFault: Decode answers this error, and nothing beside.
func wantFault(t *testing.T, b []byte, code api.Errno) {
	t.Helper()
	wantDecode(t, b, api.Msg{}, code)
}

// wantRight: a message, its bytes, and what Decode makes of them.
func wantRight(t *testing.T, m api.Msg) {
	t.Helper()
	wantSound(t, m, true)
	wantEncode(t, m, form(m), api.OK)
	wantDecode(t, form(m), m, api.OK)
}

// wantWrong: what is no message.
func wantWrong(t *testing.T, m api.Msg) {
	t.Helper()
	wantSound(t, m, false)
	wantEncode(t, m, nil, api.ErrMsg)
}

// wantRead holds Decode to P15.2 as the test's own functions say it, and to there being one form.
func wantRead(t *testing.T, b []byte) api.Errno {
	t.Helper()
	want, code := read(b)
	got, e := Decode(b)
	if !same(got, want) || e != code {
		t.Fatalf("Decode(%x) is %v, %d, not %v, %d", b, got, e, want, code)
	}
	if e != api.OK {
		return e
	}
	if again, e := Encode(got); !bytes.Equal(again, b) || e != api.OK {
		t.Fatalf("Encode of what Decode makes of %x is %x, %d", b, again, e)
	}
	return e
}

// dice: numbers that look like chance, always the same ones.
type dice struct{ state uint64 }

func (d *dice) next() uint64 {
	d.state = d.state*6364136223846793005 + 1442695040888963407
	return d.state ^ d.state>>29
}

func (d *dice) below(n int) int { return int(d.next() >> 8 % uint64(n)) }

// count: a batch or an attempt, from 1 on, of any length.
func (d *dice) count() int { return 1 + int(d.next()>>24>>d.below(40)) }

// keys: at most so many keys of any length that rise.
func (d *dice) keys(count int) []uint64 {
	keys := []uint64{}
	for range count {
		keys = append(keys, d.next()>>d.below(64))
	}
	slices.Sort(keys)
	return slices.Compact(keys)
}

// message: a message of this kind, with at most so many keys or pairs.
func (d *dice) message(kind int, many int) api.Msg {
	m := api.Msg{Kind: kind, From: d.below(lastNode + 1), To: d.below(lastNode + 1), Batch: d.count(), Attempt: d.count()}
	switch kind {
	case 4:
		m.Keys = d.keys(many)
	case 5, 7:
		m.Code = d.below(lastCode + 1)
	case 6:
		for _, key := range d.keys(many) {
			m.Pairs = append(m.Pairs, pair(key, d.next()))
		}
	default:
		for range 1 + d.below(mostEnds) {
			m.Ends = append(m.Ends, d.below(lastEnd+1))
		}
	}
	return m
}
