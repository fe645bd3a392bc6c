package msg

import (
	"bytes"
	"math"
	"slices"
	"testing"

	"reprise/api"
)

// The three examples.

func TestExampleEncode(t *testing.T) {
	for _, c := range []struct {
		m    api.Msg
		want []byte
	}{
		{api.Msg{Kind: api.MsgReady, From: 1, To: 0, Batch: 2, Attempt: 300, Ends: []int{5, 0}}, []byte{0x02, 0x01, 0x00, 0x02, 0xac, 0x02, 0x02, 0x05, 0x00}},
		{api.Msg{Kind: api.MsgBegan, From: 3, To: 1, Batch: 2, Attempt: 7, Code: 130}, []byte{0x05, 0x03, 0x01, 0x02, 0x07, 0x82, 0x01}},
		{api.Msg{Kind: api.MsgApply, From: 1, To: 3, Batch: 2, Attempt: 7, Pairs: []api.Pair{pair(9, 1)}}, []byte{0x06, 0x01, 0x03, 0x02, 0x07, 0x01, 0x09, 0x01, 0, 0, 0, 0, 0, 0, 0}},
	} {
		wantSound(t, c.m, true)
		wantEncode(t, c.m, c.want, api.OK)
		wantDecode(t, c.want, c.m, api.OK)
	}
}

func TestExampleNoMessage(t *testing.T) {
	ready := api.Msg{Kind: api.MsgReady, From: 1, To: 0, Batch: 2, Attempt: 300, Ends: []int{5, 0}}
	withCode, noEnds, noBatch, fromNine := ready, ready, ready, ready
	withCode.Code, noEnds.Ends, noBatch.Batch, fromNine.From = 1, nil, 0, 9
	for _, m := range []api.Msg{withCode, noEnds, noBatch, fromNine} {
		wantWrong(t, m)
	}
}

func TestExampleDecode(t *testing.T) {
	wantFault(t, []byte{0x09}, api.ErrMsg)
	wantFault(t, []byte{0x09, 1, 0, 2, 7, 1, 5}, api.ErrMsg)
	wantFault(t, []byte{0x02, 0x01}, api.ErrShort)
	wantFault(t, []byte{0x02, 0x01, 0x00, 0x02, 0x07, 0x05}, api.ErrLong)
	wantFault(t, []byte{0x02, 0x01, 0x00, 0x02, 0x07, 0x05, 1, 1, 1, 1, 1}, api.ErrLong)
	wantFault(t, []byte{0x02, 0x01, 0x00, 0x02, 0x07, 0x00}, api.ErrMsg)
	wantFault(t, []byte{0x05, 0x03, 0x01, 0x02, 0x07, 0x00, 0x00}, api.ErrTail)
}

// P15.1: kinds.

func TestSoundOfEachKind(t *testing.T) {
	for _, kind := range kinds() {
		for _, m := range few(kind) {
			wantRight(t, m)
		}
	}
}

// TestKindsHaveTheirNumbers: the names that api gives are the table's.
func TestKindsHaveTheirNumbers(t *testing.T) {
	names := []int{api.MsgAssign, api.MsgReady, api.MsgGo, api.MsgBegin, api.MsgBegan, api.MsgApply, api.MsgApplied, api.MsgDone}
	for i, kind := range names {
		m := plain(kind)
		if b, e := Encode(m); e != api.OK || b[0] != byte(i+1) {
			t.Errorf("Encode(%v) is %x, %d", m, b, e)
		}
	}
}

func TestSoundOfKindsThatAreNone(t *testing.T) {
	for _, wrong := range noKinds() {
		wantWrong(t, head(wrong))
		wantWrong(t, api.Msg{Kind: wrong})
		for _, kind := range kinds() {
			for _, m := range few(kind) {
				m.Kind = wrong
				wantWrong(t, m)
			}
		}
	}
	wantWrong(t, api.Msg{})
}

// TestSoundOfAnotherKindsAsked: what one kind asks for makes no message of a kind that asks for another.
func TestSoundOfAnotherKindsAsked(t *testing.T) {
	for _, kind := range kinds() {
		for _, other := range kinds() {
			m := plain(kind)
			m.Kind = other
			if isMessage(m) {
				wantRight(t, m)
				continue
			}
			wantWrong(t, m)
		}
	}
	right := [][]int{}
	for _, kind := range kinds() {
		list := []int{}
		for _, other := range kinds() {
			m := plain(kind)
			if m.Kind = other; Sound(m) {
				list = append(list, other)
			}
		}
		right = append(right, list)
	}
	ends, code := []int{1, 2, 3, 8}, []int{5, 7}
	if want := [][]int{ends, ends, ends, {4}, code, {6}, code, ends}; !slices.EqualFunc(right, want, slices.Equal) {
		t.Errorf("the kinds that ask for the same are %d", right)
	}
}

// P15.1: From, To, Batch and Attempt.

// fields: pointers to the four numbers that each message has.
func fields(m *api.Msg) []*int { return []*int{&m.From, &m.To, &m.Batch, &m.Attempt} }

func TestSoundOfEachNode(t *testing.T) {
	for _, kind := range kinds() {
		for from := range lastNode + 1 {
			for to := range lastNode + 1 {
				m := plain(kind)
				m.From, m.To = from, to
				wantRight(t, m)
			}
		}
		for _, wrong := range noNodes() {
			for node := range lastNode + 1 {
				m := plain(kind)
				m.From, m.To = wrong, node
				wantWrong(t, m)
				m.From, m.To = node, wrong
				wantWrong(t, m)
			}
		}
	}
}

func TestSoundOfEachCount(t *testing.T) {
	for _, kind := range kinds() {
		for _, batch := range counts() {
			for _, attempt := range counts() {
				m := plain(kind)
				m.Batch, m.Attempt = batch, attempt
				wantRight(t, m)
			}
		}
		for _, wrong := range noCounts() {
			for _, count := range counts() {
				m := plain(kind)
				m.Batch, m.Attempt = wrong, count
				wantWrong(t, m)
				m.Batch, m.Attempt = count, wrong
				wantWrong(t, m)
			}
		}
	}
}

// P15.1: ends.

func TestSoundOfSoManyEnds(t *testing.T) {
	for _, kind := range kindsOfEnds() {
		wantWrong(t, ofEnds(kind))
		wantWrong(t, ofEnds(kind, []int{}...))
		for count := 1; count <= mostEnds; count++ {
			wantRight(t, ofEnds(kind, make([]int, count)...))
			wantRight(t, ofEnds(kind, slices.Repeat([]int{lastEnd}, count)...))
			wantRight(t, ofEnds(kind, []int{7, 3, 256, 0}[:count]...))
		}
		for _, count := range []int{5, 6, 64, 256, 256 + 1, 1<<16 + 2} {
			wantWrong(t, ofEnds(kind, make([]int, count)...))
		}
	}
}

func TestSoundOfEachEnd(t *testing.T) {
	wrongs := []int{-1, 257, -2, 258, 512, 1 << 16, 1 << 32, 1<<32 + 5, 1 << 62, math.MinInt, math.MaxInt}
	for _, kind := range kindsOfEnds() {
		for count := 1; count <= mostEnds; count++ {
			for at := range count {
				for _, end := range []int{0, 1, 127, 128, 255, 256} {
					ends := slices.Repeat([]int{9}, count)
					ends[at] = end
					wantRight(t, ofEnds(kind, ends...))
				}
				for _, wrong := range wrongs {
					ends := slices.Repeat([]int{9}, count)
					ends[at] = wrong
					wantWrong(t, ofEnds(kind, ends...))
				}
			}
		}
	}
}

// P15.1: keys.

func TestSoundOfSoManyKeys(t *testing.T) {
	for count := range most + 1 {
		wantRight(t, ofKeys(rows(0, count, 1)...))
		wantRight(t, ofKeys(rows(lastKey-uint64(max(count, 1))+1, count, 1)...))
	}
	wantRight(t, head(kindOfKeys))
	for _, count := range []int{65, 66, 127, 128, 256, 256 + 3, 1<<16 + 2} {
		wantWrong(t, ofKeys(rows(0, count, 1)...))
		wantWrong(t, ofKeys(rows(7, count, 1000)...))
	}
}

func TestSoundOfKeysThatRiseOrNot(t *testing.T) {
	for _, keys := range notRising() {
		wantWrong(t, ofKeys(keys...))
	}
	for at := 1; at < most; at++ {
		keys := rows(100, most, 5)
		keys[at] = keys[at-1] + 1
		wantRight(t, ofKeys(keys...))
		keys[at]--
		wantWrong(t, ofKeys(keys...))
		keys[at]--
		wantWrong(t, ofKeys(keys...))
	}
	for _, key := range someKeys() {
		wantRight(t, ofKeys(key))
		wantWrong(t, ofKeys(key, key))
	}
}

// P15.1: pairs.

func TestSoundOfSoManyPairs(t *testing.T) {
	for count := range most + 1 {
		wantRight(t, ofPairs(table(rows(0, count, 1)...)...))
		wantRight(t, ofPairs(table(rows(lastKey-uint64(max(count, 1))+1, count, 1)...)...))
	}
	wantRight(t, head(kindOfPairs))
	for _, count := range []int{65, 66, 127, 128, 256, 256 + 3, 1<<16 + 2} {
		wantWrong(t, ofPairs(table(rows(0, count, 1)...)...))
		wantWrong(t, ofPairs(table(rows(7, count, 1000)...)...))
	}
}

func TestSoundOfPairsInOrderOrNot(t *testing.T) {
	for _, keys := range notRising() {
		wantWrong(t, ofPairs(table(keys...)...))
	}
	for at := 1; at < most; at++ {
		pairs := table(rows(100, most, 5)...)
		pairs[at].Key = pairs[at-1].Key + 1
		wantRight(t, ofPairs(pairs...))
		pairs[at].Key--
		wantWrong(t, ofPairs(pairs...))
		pairs[at].Key--
		wantWrong(t, ofPairs(pairs...))
	}
	wantWrong(t, ofPairs(pair(5, 1), pair(5, 1)))
	wantWrong(t, ofPairs(pair(5, 1), pair(5, 2)))
}

// TestSoundOfEachValue: a table may hold any bits, and no value without Has.
func TestSoundOfEachValue(t *testing.T) {
	for _, key := range someKeys() {
		for _, bits := range someBits() {
			wantRight(t, ofPairs(pair(key, bits)))
			wantWrong(t, ofPairs(api.Pair{Key: key, Val: api.Value{Bits: bits}}))
		}
	}
	for _, count := range []int{1, 2, 3, most} {
		for at := range count {
			for _, wrong := range []api.Value{{}, {Bits: 1}, {Bits: lastKey}} {
				pairs := table(rows(1, count, 2)...)
				pairs[at].Val = wrong
				wantWrong(t, ofPairs(pairs...))
			}
		}
	}
}

// P15.1: codes.

func TestSoundOfEachCode(t *testing.T) {
	for _, kind := range kindsOfCode() {
		for _, code := range []int{0, 1, 127, 128, 130, 131, 255, 256, 999, 1000} {
			wantRight(t, ofCode(kind, code))
		}
		for _, wrong := range []int{-1, 1001, -2, 1002, -1000, 1 << 16, 1 << 32, 1<<32 + 5, top, math.MinInt, math.MaxInt} {
			wantWrong(t, ofCode(kind, wrong))
		}
	}
}

// P15.1: what a kind doesn't ask for.

func TestSoundOfFieldsThatAreNotAskedFor(t *testing.T) {
	for _, kind := range kinds() {
		for _, good := range few(kind) {
			asked := plain(kind)
			for _, wrong := range []int{1, -1, 130, lastCode, lastCode + 1, math.MinInt, math.MaxInt} {
				if m := good; asked.Code == 0 {
					m.Code = wrong
					wantWrong(t, m)
				}
			}
			for _, wrong := range [][]int{{0}, {5}, {-1}, {0, 0, 0, 0}, {0, 0, 0, 0, 0}, {lastEnd + 1}} {
				if m := good; asked.Ends == nil {
					m.Ends = wrong
					wantWrong(t, m)
				}
			}
			for _, wrong := range [][]uint64{{0}, {1}, {2, 5}, {5, 5}, {lastKey}, rows(0, most, 1), rows(0, most+1, 1)} {
				if m := good; asked.Keys == nil {
					m.Keys = wrong
					wantWrong(t, m)
				}
			}
			for _, wrong := range [][]api.Pair{{{}}, {pair(0, 0)}, {pair(9, 1)}, {pair(5, 1), pair(5, 1)}, table(rows(0, most, 1)...), table(rows(0, most+1, 1)...)} {
				if m := good; asked.Pairs == nil {
					m.Pairs = wrong
					wantWrong(t, m)
				}
			}
		}
	}
}

// TestSoundOfListsThatHoldNothing: a list without elements is no list.
func TestSoundOfListsThatHoldNothing(t *testing.T) {
	for _, kind := range kinds() {
		for _, m := range few(kind) {
			if len(m.Ends) == 0 {
				m.Ends = []int{}
			}
			if len(m.Keys) == 0 {
				m.Keys = []uint64{}
			}
			if len(m.Pairs) == 0 {
				m.Pairs = []api.Pair{}
			}
			wantRight(t, m)
		}
	}
}

func TestSoundAgainstTheWords(t *testing.T) {
	numbers := []int{math.MinInt, -1, 0, 1, lastNode, lastNode + 1, top, top + 1, math.MaxInt}
	bodies := []api.Msg{{}, {Code: 1}, {Code: -1}, {Ends: []int{0}}, {Ends: make([]int, 5)}, {Keys: []uint64{1}}, {Keys: []uint64{1, 1}}, {Pairs: table(1)}, {Pairs: make([]api.Pair, 1)}, {Ends: []int{0}, Code: 1}, {Keys: []uint64{1}, Pairs: table(1)}}
	right := 0
	for _, kind := range append(kinds(), -1, 0, 9) {
		for _, body := range bodies {
			for _, a := range numbers {
				for _, b := range numbers {
					for _, m := range []api.Msg{{From: a, To: b, Batch: 1, Attempt: 1}, {Batch: a, Attempt: b}, {From: a, Batch: b, Attempt: 1}, {To: a, Batch: 1, Attempt: b}} {
						m.Kind, m.Code, m.Ends, m.Keys, m.Pairs = kind, body.Code, body.Ends, body.Keys, body.Pairs
						if !isMessage(m) {
							wantWrong(t, m)
							continue
						}
						wantRight(t, m)
						right++
					}
				}
			}
		}
	}
	if right == 0 {
		t.Error("none of them was a message")
	}
}

// P15.1: the bytes themselves.

func TestBytesFieldByField(t *testing.T) {
	for _, c := range []struct {
		m    api.Msg
		want []byte
	}{
		{api.Msg{Kind: 1, From: 0, To: 4, Batch: 1, Attempt: 1, Ends: []int{0}}, []byte{1, 0, 4, 1, 1, 1, 0}},
		{api.Msg{Kind: 2, From: 4, To: 0, Batch: 127, Attempt: 128, Ends: []int{127, 128, 255, 256}}, []byte{2, 4, 0, 127, 128, 1, 4, 127, 128, 1, 255, 1, 128, 2}},
		{api.Msg{Kind: 3, From: 8, To: 7, Batch: 128, Attempt: 127, Ends: []int{3, 2, 1}}, []byte{3, 8, 7, 128, 1, 127, 3, 3, 2, 1}},
		{api.Msg{Kind: 4, From: 1, To: 8, Batch: 16383, Attempt: 16384}, []byte{4, 1, 8, 255, 127, 128, 128, 1, 0}},
		{api.Msg{Kind: 4, From: 2, To: 5, Batch: 6, Attempt: 9, Keys: []uint64{0, 127, 128, lastKey}}, []byte{4, 2, 5, 6, 9, 4, 0, 127, 128, 1, 255, 255, 255, 255, 255, 255, 255, 255, 255, 1}},
		{api.Msg{Kind: 5, From: 6, To: 2, Batch: top, Attempt: top - 1, Code: 0}, []byte{5, 6, 2, 128, 128, 128, 128, 128, 32, 255, 255, 255, 255, 255, 31, 0}},
		{api.Msg{Kind: 6, From: 3, To: 6, Batch: 5, Attempt: 4}, []byte{6, 3, 6, 5, 4, 0}},
		{api.Msg{Kind: 6, From: 3, To: 6, Batch: 5, Attempt: 4, Pairs: []api.Pair{pair(0, 0), pair(300, 0x0807060504030201)}}, []byte{6, 3, 6, 5, 4, 2, 0, 0, 0, 0, 0, 0, 0, 0, 0, 0xac, 2, 1, 2, 3, 4, 5, 6, 7, 8}},
		{api.Msg{Kind: 7, From: 5, To: 1, Batch: 3, Attempt: 2, Code: 1000}, []byte{7, 5, 1, 3, 2, 0xe8, 7}},
		{api.Msg{Kind: 8, From: 2, To: 0, Batch: 1, Attempt: top, Ends: []int{16, 0}}, []byte{8, 2, 0, 1, 128, 128, 128, 128, 128, 32, 2, 16, 0}},
	} {
		wantSound(t, c.m, true)
		wantEncode(t, c.m, c.want, api.OK)
		wantDecode(t, c.want, c.m, api.OK)
	}
}

func TestBytesOfManyMessages(t *testing.T) {
	d := &dice{1}
	for i := range 130 {
		for _, kind := range kinds() {
			wantRight(t, d.message(kind, i%(most+1)))
		}
	}
}

// P15.2: numbers that Take refuses, at each field.

func TestDecodeOfNoByte(t *testing.T) {
	wantFault(t, nil, api.ErrShort)
	wantFault(t, []byte{}, api.ErrShort)
}

// badNumbers: bytes that Take refuses, and how.
func badNumbers() map[string]api.Errno {
	return map[string]api.Errno{
		"": api.ErrShort, "\x80": api.ErrShort, "\xff\xff": api.ErrShort, "\x80\x80\x80\x80\x80\x80\x80\x80\x80": api.ErrShort,
		"\x80\x00": api.ErrForm, "\xff\x80\x00": api.ErrForm, "\x85\x00": api.ErrForm, "\x81\x00": api.ErrForm,
		"\x80\x80\x80\x80\x80\x80\x80\x80\x80\x02": api.ErrForm, "\xff\xff\xff\xff\xff\xff\xff\xff\xff\xff": api.ErrForm,
		"\x80\x80\x80\x80\x80\x80\x80\x80\x80\x80": api.ErrForm, "\x80\x80\x80\x80\x80\x80\x80\x80\x80\x00": api.ErrForm,
	}
}

// heads: what may stand ahead of each number of a message of this kind.
func heads(kind byte) [][]byte {
	list := [][]byte{{}, {kind}, {kind, 1}, {kind, 1, 3}, {kind, 1, 3, 2}, {kind, 1, 3, 2, 7}}
	list = append(list, []byte{kind, 99}, []byte{kind, 1, 99}, []byte{kind, 1, 3, 0}, []byte{kind, 1, 3, 0, 0}, append([]byte{kind}, numbers(top, top, top, top)...))
	full := []byte{kind, 1, 3, 2, 7}
	switch kind {
	case 4:
		list = append(list, append(full, 1), append(full, 2, 5), append(full, 3, 9, 5), append(append(full, most), rowOf(most-1)...))
	case 6:
		list = append(list, append(full, 1), slices.Concat(full, []byte{2, 5}, word(lastKey)), slices.Concat(full, []byte{3, 9}, word(0), []byte{5}, word(0)))
	case 5, 7:
	default:
		list = append(list, append(full, 1), append(full, 2, 5), append(full, 4, 0, 0, 0), append(full, 2, 128, 128, 1))
	}
	return list
}

// rowOf: so many keys of one byte that rise.
func rowOf(count int) []byte { return numbers(rows(0, count, 1)...) }

func TestDecodeOfBadNumbers(t *testing.T) {
	for bad, code := range badNumbers() {
		for _, kind := range kinds() {
			for _, head := range heads(byte(kind)) {
				wantFault(t, slices.Concat(head, []byte(bad)), code)
				if code != api.ErrForm {
					continue
				}
				for _, behind := range [][]byte{{0}, {1, 1, 0}, {0x80}, {0x80, 0}, {65}, bytes.Repeat([]byte{1}, 99)} {
					wantFault(t, slices.Concat(head, []byte(bad), behind), code)
				}
			}
		}
	}
}

// P15.2: kinds.

func TestDecodeOfKindsThatAreNone(t *testing.T) {
	for _, kind := range []uint64{0, 9, 10, 127, 128, 255, 256, 256 + 1, 1 << 16, 1<<32 + 1, top, top + 1, 1 << 62, 1<<63 + 1, 1<<64 - 8, 1<<64 - 1} {
		for _, behind := range [][]byte{nil, {0}, {1, 3, 2, 7, 1, 5}, {1, 3, 2, 7, 0}, {0x80, 0}, {0x80}, {1, 3, 2, 7, 65}, number(top + 1), bytes.Repeat([]byte{1}, 99)} {
			wantFault(t, append(number(kind), behind...), api.ErrMsg)
		}
	}
}

// P15.2: From, To, Batch, Attempt and Code above 2^40, and up to it.

func TestDecodeOfGreatNumbers(t *testing.T) {
	behinds := [][]byte{nil, {0}, {1, 3, 2, 7, 0, 0}, {1}, {0x80}, {0x80, 0}, {65}, {9, 9, 9, 9, 9, 9, 9}, number(top + 1)}
	for _, kind := range kinds() {
		for _, great := range greatCounts() {
			for _, behind := range behinds {
				for count := range 4 {
					wantFault(t, slices.Concat([]byte{byte(kind), 1, 3, 2}[:1+count], number(great), behind), api.ErrForm)
					wantFault(t, slices.Concat([]byte{byte(kind), 99, 99, 0}[:1+count], number(great), behind), api.ErrForm)
					wantFault(t, slices.Concat([]byte{byte(kind)}, numbers(top, top, top)[:6*count], number(great), behind), api.ErrForm)
				}
			}
		}
	}
}

// TestDecodeOfNumbersThatReadWell: what is at most 2^40 is read, and refused at the end if it is none.
func TestDecodeOfNumbersThatReadWell(t *testing.T) {
	for _, kind := range kinds() {
		for field := range 4 {
			for _, x := range []int{0, 1, 8, 9, 10, 127, 128, 300, 1 << 32, top - 1, top} {
				m := plain(kind)
				*fields(&m)[field] = x
				b := form(m)
				wantFault(t, slices.Concat(b, []byte{0}), api.ErrTail)
				wantFault(t, b[:len(b)-1], api.ErrShort)
				if isMessage(m) {
					wantDecode(t, b, m, api.OK)
					continue
				}
				wantFault(t, b, api.ErrMsg)
			}
		}
	}
}

func TestDecodeOfEachCode(t *testing.T) {
	for _, kind := range kindsOfCode() {
		begin := start(head(kind))
		for _, code := range []uint64{0, 1, 127, 128, 130, 999, 1000} {
			wantDecode(t, append(slices.Clone(begin), number(code)...), ofCode(kind, int(code)), api.OK)
		}
		for _, code := range []uint64{1001, 1002, 1 << 16, 1 << 32, top - 1, top} {
			wantFault(t, slices.Concat(begin, number(code)), api.ErrMsg)
			wantFault(t, slices.Concat(begin, number(code), []byte{0}), api.ErrTail)
		}
		for _, code := range greatCounts() {
			for _, behind := range [][]byte{nil, {0}, {0x80}, {0x80, 0}} {
				wantFault(t, slices.Concat(begin, number(code), behind), api.ErrForm)
			}
		}
	}
}

// P15.2: lists.

// greatLengths: how many there are of what no list has so many of.
func greatLengths() []uint64 {
	return []uint64{65, 66, 127, 128, 255, 256, 256 + 1, 1 << 16, 1 << 32, 1<<32 + 1, top + 1, 1 << 62, 1<<62 + 1, 1<<63 - 1, 1 << 63, 1<<63 + 1, 1<<64 - 1}
}

func TestDecodeOfLongLists(t *testing.T) {
	behinds := [][]byte{nil, {0}, {0x80, 0}, {0x80}, {5, 5}, rowOf(64), rowOf(65), rowOf(66), bytes.Repeat([]byte{1}, 65*9), bytes.Repeat([]byte{1}, 66*9)}
	for _, kind := range []int{1, 2, 3, 4, 6, 8} {
		lengths := greatLengths()
		if kind != kindOfKeys && kind != kindOfPairs {
			lengths = append(lengths, 5, 6, 64)
		}
		wrongHead := start(api.Msg{Kind: kind, From: 99})
		for _, length := range lengths {
			for _, behind := range behinds {
				wantFault(t, slices.Concat(start(head(kind)), number(length), behind), api.ErrLong)
				wantFault(t, slices.Concat(wrongHead, number(length), behind), api.ErrLong)
			}
		}
	}
}

func TestDecodeOfHowManyThereAreNot(t *testing.T) {
	for _, kind := range []int{1, 2, 3, 4, 6, 8} {
		for _, m := range few(kind) {
			b := form(m)
			for count := range byte(most + 2) {
				b[5] = count
				wantRead(t, b)
			}
		}
	}
	wantFault(t, []byte{4, 1, 3, 2, 7, 2, 5}, api.ErrShort)
	wantFault(t, []byte{4, 1, 3, 2, 7, 64}, api.ErrShort)
	wantFault(t, []byte{4, 1, 3, 2, 7, 1, 5, 6}, api.ErrTail)
	wantFault(t, []byte{4, 1, 3, 2, 7, 0, 5}, api.ErrTail)
	wantFault(t, []byte{6, 1, 3, 2, 7, 64}, api.ErrShort)
	wantFault(t, []byte{6, 1, 3, 2, 7, 0, 5}, api.ErrTail)
	wantFault(t, []byte{1, 1, 3, 2, 7, 4, 0, 0, 0}, api.ErrShort)
	wantFault(t, []byte{1, 1, 3, 2, 7, 3, 0, 0, 0, 0}, api.ErrTail)
	wantFault(t, []byte{1, 1, 3, 2, 7, 0, 0}, api.ErrTail)
}

// TestDecodeOfGreatEnds: TakeNums reads numbers up to 2^62; what is no end among them is refused last.
func TestDecodeOfGreatEnds(t *testing.T) {
	for _, kind := range kindsOfEnds() {
		for at := range mostEnds {
			ahead := append(start(head(kind)), []byte{4, 9, 9, 9}[:1+at]...)
			behind := []byte{9, 9, 9}[at:]
			for _, end := range []uint64{257, 258, 512, 1 << 32, top, top + 1, 1<<62 - 1, 1 << 62} {
				wantFault(t, slices.Concat(ahead, number(end), behind), api.ErrMsg)
				wantFault(t, slices.Concat(ahead, number(end), behind, []byte{0}), api.ErrTail)
				if at < mostEnds-1 {
					wantFault(t, slices.Concat(ahead, number(end), behind[1:]), api.ErrShort)
					wantFault(t, slices.Concat(ahead, number(end), []byte{0x80, 0}), api.ErrForm)
				}
			}
			for _, end := range []uint64{1<<62 + 1, 1<<63 - 1, 1 << 63, 1<<63 + 5, 1<<64 - 1} {
				for _, rest := range [][]byte{nil, behind, {0x80}, slices.Concat(behind, []byte{0})} {
					wantFault(t, slices.Concat(ahead, number(end), rest), api.ErrForm)
				}
			}
		}
	}
}

// TestDecodeOfAFaultAtEachKey: what is at fault is told at whichever key it stands.
func TestDecodeOfAFaultAtEachKey(t *testing.T) {
	for at := range most {
		ahead := form(ofKeys(rows(0, most, 1)...))[:6+at]
		wantFault(t, ahead, api.ErrShort)
		wantFault(t, slices.Concat(ahead, []byte{0xff}), api.ErrShort)
		wantFault(t, slices.Concat(ahead, []byte{0x80, 0}, bytes.Repeat([]byte{1}, most)), api.ErrForm)
	}
}

// TestDecodeOfAFaultAtEachPair: keys at fault, and words that are cut at each of their bytes.
func TestDecodeOfAFaultAtEachPair(t *testing.T) {
	for at := range most {
		ahead := form(ofPairs(table(rows(0, most, 1)...)...))[:6+9*at]
		wantFault(t, ahead, api.ErrShort)
		wantFault(t, slices.Concat(ahead, []byte{0xff}), api.ErrShort)
		wantFault(t, slices.Concat(ahead, []byte{0x80, 0}, bytes.Repeat([]byte{1}, 9*most)), api.ErrForm)
		for count := range 8 {
			wantFault(t, slices.Concat(ahead, []byte{99}, bytes.Repeat([]byte{0xff}, count)), api.ErrShort)
		}
	}
	// A key at fault behind a word that is whole, and ahead of one that is cut.
	wantFault(t, slices.Concat([]byte{6, 1, 3, 2, 7, 2, 5}, word(1), []byte{0x80, 0}), api.ErrForm)
	wantFault(t, []byte{6, 1, 3, 2, 7, 1, 0x80, 0}, api.ErrForm)
	wantFault(t, slices.Concat([]byte{6, 1, 3, 2, 7, 2, 5}, word(1)[:7], []byte{0x80}), api.ErrShort)
}

// P15.2: the end, and what is no message.

func TestDecodeOfEachMessageCutAndGrown(t *testing.T) {
	d := &dice{2}
	for _, kind := range kinds() {
		list := few(kind)
		for i := range 12 {
			list = append(list, d.message(kind, 5*i))
		}
		for _, m := range list {
			b := form(m)
			for cut := range b {
				wantFault(t, b[:cut], api.ErrShort)
			}
			for c := range 256 {
				wantFault(t, append(slices.Clone(b), byte(c)), api.ErrTail)
			}
			wantFault(t, slices.Concat(b, b), api.ErrTail)
			wantFault(t, slices.Concat(b, []byte{0x80, 0}), api.ErrTail)
		}
	}
}

// readWell: what is no message, but has bytes that read well to their end.
func readWell() []api.Msg {
	list := []api.Msg{}
	for _, kind := range kinds() {
		for field, wrongs := range [][]int{{9, 10, 127, top}, {9, 10, 127, top}, {0}, {0}} {
			for _, wrong := range wrongs {
				m := plain(kind)
				*fields(&m)[field] = wrong
				list = append(list, m)
			}
		}
	}
	for _, keys := range notRising() {
		list = append(list, ofKeys(keys...), ofPairs(table(keys...)...))
	}
	for _, kind := range kindsOfEnds() {
		list = append(list, ofEnds(kind), ofEnds(kind, 257), ofEnds(kind, 0, 1<<62))
	}
	for _, kind := range kindsOfCode() {
		list = append(list, ofCode(kind, 1001), ofCode(kind, top))
	}
	return list
}

func TestDecodeOfWhatReadsWellAndIsNone(t *testing.T) {
	for _, m := range readWell() {
		b := form(m)
		wantFault(t, b, api.ErrMsg)
		for _, tail := range [][]byte{{0}, {1}, {0x80}, {0x80, 0}, b} {
			wantFault(t, slices.Concat(b, tail), api.ErrTail)
		}
		for cut := range b {
			wantFault(t, b[:cut], api.ErrShort)
		}
	}
}

// TestDecodeTellsTheFirstFault: of two that apply the one that is named first; what stands behind a fault plays no part.
func TestDecodeTellsTheFirstFault(t *testing.T) {
	great := number(top + 1)
	for _, c := range []struct {
		b    []byte
		want api.Errno
	}{
		{[]byte{0x80, 0, 9}, api.ErrForm},
		{[]byte{9, 0x80, 0}, api.ErrMsg},
		{append([]byte{0}, great...), api.ErrMsg},
		{slices.Concat([]byte{2}, great, []byte{0x80, 0}), api.ErrForm},
		{slices.Concat([]byte{2}, great), api.ErrForm},
		{[]byte{2, 99, 0x80}, api.ErrShort},
		{slices.Concat([]byte{2, 99, 99}, great), api.ErrForm},
		{slices.Concat([]byte{2, 1, 3, 0x80, 0}, great), api.ErrForm},
		{slices.Concat([]byte{2, 1, 3, 2}, great, []byte{5}), api.ErrForm},
		{[]byte{2, 99, 3, 0, 7, 5, 0x80, 0}, api.ErrLong},
		{[]byte{2, 99, 3, 0, 7, 0x80, 0}, api.ErrForm},
		{[]byte{2, 99, 3, 0, 7, 2, 0x80}, api.ErrShort},
		{[]byte{2, 99, 3, 0, 7, 0, 1}, api.ErrTail},
		{[]byte{2, 99, 3, 0, 7, 0}, api.ErrMsg},
		{[]byte{4, 99, 3, 0, 7, 65, 0x80, 0}, api.ErrLong},
		{[]byte{4, 1, 3, 2, 7, 3, 5, 5}, api.ErrShort},
		{[]byte{4, 1, 3, 2, 7, 3, 5, 5, 0x80, 0}, api.ErrForm},
		{[]byte{4, 1, 3, 2, 7, 2, 5, 5, 9}, api.ErrTail},
		{[]byte{4, 1, 3, 2, 7, 2, 5, 5}, api.ErrMsg},
		{[]byte{6, 99, 3, 0, 7, 65, 0x80, 0}, api.ErrLong},
		{slices.Concat([]byte{6, 1, 3, 2, 7, 2, 5}, word(1), []byte{5}, word(1)[:7]), api.ErrShort},
		{slices.Concat([]byte{6, 1, 3, 2, 7, 2, 5}, word(1), []byte{5}, word(1), []byte{9}), api.ErrTail},
		{slices.Concat([]byte{6, 1, 3, 2, 7, 2, 5}, word(1), []byte{5}, word(1)), api.ErrMsg},
		{slices.Concat([]byte{5, 99, 3, 0, 7}, great, []byte{0}), api.ErrForm},
		{slices.Concat([]byte{5, 99, 3, 0, 7}, number(1001), []byte{0}), api.ErrTail},
		{slices.Concat([]byte{5, 1, 3, 2, 7}, number(1001)), api.ErrMsg},
	} {
		wantFault(t, c.b, c.want)
	}
}

// P15.3, P4: one form.

// wantReadAll holds Decode to the words at all bytes of an alphabet behind a head, up to a length.
func wantReadAll(t *testing.T, head []byte, alphabet []byte, most int) map[api.Errno]int {
	t.Helper()
	seen := map[api.Errno]int{}
	all := [][]byte{head}
	for range most + 1 {
		next := [][]byte{}
		for _, b := range all {
			seen[wantRead(t, b)]++
			for _, c := range alphabet {
				next = append(next, append(slices.Clone(b), c))
			}
		}
		all = next
	}
	return seen
}

// wantSeen tells of errors that none of the bytes were answered with.
func wantSeen(t *testing.T, seen map[api.Errno]int, codes ...api.Errno) {
	t.Helper()
	for _, e := range codes {
		if seen[e] == 0 {
			t.Errorf("no bytes were %d", e)
		}
	}
}

func TestDecodeOfAllShortBytes(t *testing.T) {
	seen := wantReadAll(t, nil, []byte{0, 1, 4, 5, 6, 8, 9, 0x80, 0xff}, 5)
	wantSeen(t, seen, api.ErrShort, api.ErrForm, api.ErrMsg)
	wantSeen(t, wantReadAll(t, nil, []byte{0, 1, 5, 0x80}, 7), api.OK, api.ErrShort, api.ErrForm, api.ErrTail, api.ErrMsg)
}

func TestDecodeOfAllShortBytesBehindAHead(t *testing.T) {
	alphabet := []byte{0, 1, 2, 3, 65, 0x7f, 0x80, 0x81, 0xff}
	for _, kind := range kinds() {
		seen := wantReadAll(t, start(head(kind)), alphabet, 4)
		wantSeen(t, seen, api.ErrShort, api.ErrForm)
		switch kind {
		case 5, 7:
			wantSeen(t, seen, api.OK, api.ErrTail, api.ErrMsg)
		case 6:
			wantSeen(t, seen, api.OK, api.ErrTail, api.ErrLong)
		default:
			wantSeen(t, seen, api.OK, api.ErrTail, api.ErrMsg, api.ErrLong)
		}
	}
}

func TestDecodeOfMessagesWithOneByteChanged(t *testing.T) {
	d := &dice{3}
	for i := range 12 {
		for _, kind := range kinds() {
			b := form(d.message(kind, i%6))
			for at, was := range b {
				for c := range 256 {
					b[at] = byte(c)
					wantRead(t, b)
				}
				b[at] = was
			}
		}
	}
}

func TestDecodeOfMessagesWithBytesTakenOutAndPutIn(t *testing.T) {
	d := &dice{4}
	for i := range 8000 {
		b := form(d.message(1+i%8, d.below(most+1)))
		for range 1 + d.below(3) {
			at := d.below(len(b))
			switch d.below(3) {
			case 0:
				b = slices.Delete(b, at, min(len(b), at+1+d.below(9)))
			case 1:
				b = slices.Insert(b, at, byte(d.next()))
			default:
				b[at] = byte(d.next())
			}
			if len(b) == 0 {
				break
			}
		}
		wantRead(t, b)
	}
}

// TestNoTwoMessagesHaveTheSameBytes: what Encode makes is read again with all that it has, so that all of it is there.
func TestNoTwoMessagesHaveTheSameBytes(t *testing.T) {
	list := []api.Msg{}
	for _, kind := range kinds() {
		list = append(list, few(kind)...)
		for field := range 4 {
			m := plain(kind)
			*fields(&m)[field] += 3
			list = append(list, m)
		}
	}
	list = append(list, ofPairs(pair(9, 2), pair(300, lastKey)), ofPairs(pair(9, 1), pair(301, lastKey)), ofKeys(1, 129), ofEnds(1, 0, 5), ofEnds(1, 5, 0, 0))
	for i, m := range list {
		b, _ := Encode(m)
		if back, e := Decode(b); !same(back, m) || e != api.OK {
			t.Errorf("%v is read again as %v, %d", m, back, e)
		}
		for _, other := range list[:i] {
			if c, _ := Encode(other); bytes.Equal(b, c) {
				t.Errorf("%v and %v are both %x", m, other, b)
			}
		}
	}
}

// P15.4: what the tests above ask of each single call (roomy, spoil), and calls one behind the other.

func TestCallsAreAloneInWhatTheyAnswer(t *testing.T) {
	d := &dice{5}
	messages, answers := []api.Msg{}, [][]byte{}
	for i := range 80 {
		b, _ := Encode(d.message(1+i%8, i%(most+1)))
		back, _ := Decode(b)
		_ = append(b, filler)
		_ = append(back.Ends, fillEnd)
		_ = append(back.Keys, fillKey)
		_ = append(back.Pairs, fillPair())
		messages, answers = append(messages, back), append(answers, b)
	}
	d = &dice{5}
	for i := range 80 {
		m := d.message(1+i%8, i%(most+1))
		if !same(messages[i], m) || !bytes.Equal(answers[i], form(m)) {
			t.Errorf("answer %d has become %v, %x", i, messages[i], answers[i])
		}
	}
}

// TestAFaultIsForgotten: a call that was refused plays no part in the next one.
func TestAFaultIsForgotten(t *testing.T) {
	for _, kind := range kinds() {
		m := plain(kind)
		b := form(m)
		for _, bad := range [][]byte{nil, {9}, b[:len(b)-1], append(slices.Clone(b), 0), {byte(kind), 0x80, 0}} {
			if got, e := Decode(bad); !same(got, api.Msg{}) || e == api.OK {
				t.Errorf("Decode(%x) is %v, %d", bad, got, e)
			}
			if got, e := Decode(b); !same(got, m) || e != api.OK {
				t.Errorf("Decode(%x) behind a fault is %v, %d", b, got, e)
			}
		}
	}
}
