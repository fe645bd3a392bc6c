package mark

import (
	"bytes"
	"cmp"
	"math"
	"slices"
	"testing"

	"reprise/api"
)

// The four examples.

func TestExampleEncode(t *testing.T) {
	wantEncode(t, of(3, 300, 1, 128), []byte{0x03, 0xac, 0x02, 0x02, 0x01, 0x80, 0x01}, api.OK)
	wantEncode(t, of(0, 0), []byte{0, 0, 0}, api.OK)
	wantEncode(t, of(1, 0), nil, api.ErrArg)
	wantEncode(t, of(0, 1), nil, api.ErrArg)
	wantEncode(t, of(0, 0, 1), nil, api.ErrArg)
	wantEncode(t, of(1, 1, 2, 2), nil, api.ErrArg)
}

func TestExampleDecode(t *testing.T) {
	wantDecode(t, []byte{0x03, 0xac, 0x02, 0x02, 0x01, 0x80, 0x01}, of(3, 300, 1, 128), api.OK)
	wantFault(t, []byte{0x03, 0xac, 0x02, 0x02, 0x01}, api.ErrShort)
	wantFault(t, []byte{1, 0, 0}, api.ErrArg)
	wantFault(t, []byte{1, 1, 0x41}, api.ErrLong)
	wantFault(t, append([]byte{1, 1, 0x41}, numbers(rows(0, 65, 1)...)...), api.ErrLong)
	wantFault(t, []byte{0, 0, 0, 0}, api.ErrTail)
	wantFault(t, []byte{0x80, 0}, api.ErrForm)
	wantFault(t, []byte{0x80, 0, 1, 0}, api.ErrForm)
}

func TestExampleJudge(t *testing.T) {
	wantJudge(t, 3, 7, 3, 6, api.ErrFenced)
	wantJudge(t, 3, 7, 2, 99, api.ErrFenced)
	wantJudge(t, 3, 7, 3, 7, api.OK)
	wantJudge(t, 3, 7, 3, 8, api.ErrAhead)
	wantJudge(t, 3, 7, 4, 1, api.ErrAhead)
	wantJudge(t, 3, 7, 0, 9, api.ErrArg)
}

func TestExampleUnion(t *testing.T) {
	wantUnion(t, []uint64{5, 1, 5}, []uint64{2}, []uint64{1, 2, 5})
}

// P12.1: batches and attempts.

func TestSoundOfEachCount(t *testing.T) {
	for _, keys := range [][]uint64{nil, {}, {0}, {1, 128}, {lastKey}} {
		for _, batch := range counts() {
			for _, attempt := range counts() {
				wantRight(t, of(batch, attempt, keys...))
			}
		}
	}
}

func TestSoundOfCountsThatAreNone(t *testing.T) {
	for _, keys := range [][]uint64{nil, {0}, {1, 128}} {
		for _, wrong := range noCounts() {
			wantWrong(t, of(wrong, wrong, keys...))
			for _, other := range append(counts(), 0) {
				wantWrong(t, of(wrong, other, keys...))
				wantWrong(t, of(other, wrong, keys...))
			}
		}
	}
}

func TestSoundOfNoughts(t *testing.T) {
	wantRight(t, api.Mark{})
	wantRight(t, of(0, 0))
	wantRight(t, api.Mark{Keys: []uint64{}})
	for _, keys := range [][]uint64{{0}, {1}, {lastKey}, {1, 2}, rows(0, most, 1), rows(0, most+1, 1)} {
		wantWrong(t, of(0, 0, keys...))
	}
	for _, count := range counts() {
		for _, keys := range [][]uint64{nil, {}, {0}, {1, 128}} {
			wantWrong(t, of(count, 0, keys...))
			wantWrong(t, of(0, count, keys...))
		}
	}
}

// P12.1: keys.

func TestSoundOfKeysThatDoNotRise(t *testing.T) {
	for _, keys := range notRising() {
		wantWrong(t, of(1, 1, keys...))
		wantWrong(t, of(0, 0, keys...))
	}
	for at := 1; at < most; at++ {
		keys := rows(100, most, 5)
		keys[at] = keys[at-1] + 1
		wantRight(t, of(1, 1, keys...))
		keys[at]--
		wantWrong(t, of(1, 1, keys...))
		keys[at]--
		wantWrong(t, of(1, 1, keys...))
	}
}

func TestSoundOfEachKey(t *testing.T) {
	keys := someKeys()
	for i, key := range keys {
		wantRight(t, of(1, 1, key))
		wantWrong(t, of(1, 1, key, key))
		if i > 0 {
			wantRight(t, of(1, 1, keys[i-1], key))
			wantWrong(t, of(1, 1, key, keys[i-1]))
		}
		if key > 0 {
			wantRight(t, of(1, 1, key-1, key))
			wantRight(t, of(1, 1, 0, key))
		}
		if key < lastKey {
			wantRight(t, of(1, 1, key, lastKey))
		}
	}
	wantRight(t, of(1, 1, keys...))
	wantRight(t, of(1, 1, 0, 1, 2))
	wantRight(t, of(1, 1, lastKey-2, lastKey-1, lastKey))
}

func TestSoundOfSoManyKeys(t *testing.T) {
	for count := range most + 1 {
		wantRight(t, of(1, 1, rows(0, count, 1)...))
		wantRight(t, of(top, top, rows(lastKey-uint64(max(count, 1))+1, count, 1)...))
	}
	for _, count := range []int{65, 66, 127, 128, 256, 256 + 3, 1<<16 + 2} {
		wantWrong(t, of(1, 1, rows(0, count, 1)...))
		wantWrong(t, of(1, 1, rows(7, count, 1000)...))
	}
}

func TestSoundAgainstTheWords(t *testing.T) {
	numbers := []int{math.MinInt, -1, 0, 1, 2, top - 1, top, top + 1, math.MaxInt}
	lists := append(notRising(), nil, []uint64{0}, []uint64{lastKey}, []uint64{0, lastKey}, rows(0, most, 1), rows(0, most+1, 1))
	for _, batch := range numbers {
		for _, attempt := range numbers {
			for _, keys := range lists {
				m := of(batch, attempt, keys...)
				wantSound(t, m, right(m))
				if !right(m) {
					wantEncode(t, m, nil, api.ErrArg)
				}
			}
		}
	}
}

// P12.1: the bytes themselves.

func TestBytesOfEachLength(t *testing.T) {
	for _, c := range []struct {
		m    api.Mark
		want []byte
	}{
		{of(1, 1), []byte{1, 1, 0}},
		{of(127, 2, 0), []byte{127, 2, 1, 0}},
		{of(2, 127, 127), []byte{2, 127, 1, 127}},
		{of(128, 1, 128), []byte{128, 1, 1, 1, 128, 1}},
		{of(1, 128, 5, 6, 300), []byte{1, 128, 1, 3, 5, 6, 0xac, 2}},
		{of(16383, 16384), []byte{0xff, 0x7f, 0x80, 0x80, 1, 0}},
		{of(top, 1, 1), []byte{128, 128, 128, 128, 128, 32, 1, 1, 1}},
		{of(1, top, lastKey), []byte{1, 128, 128, 128, 128, 128, 32, 1, 255, 255, 255, 255, 255, 255, 255, 255, 255, 1}},
		{of(top-1, top, 1<<63), []byte{255, 255, 255, 255, 255, 31, 128, 128, 128, 128, 128, 32, 1, 128, 128, 128, 128, 128, 128, 128, 128, 128, 1}},
	} {
		wantEncode(t, c.m, c.want, api.OK)
		wantDecode(t, c.want, c.m, api.OK)
	}
}

func TestBytesOfManyMarks(t *testing.T) {
	d := &dice{1}
	for i := range 300 {
		wantRight(t, d.mark(i%(most+1)))
	}
}

// TestTheMarkFitsABlock: the longest mark is shorter than a block.
func TestTheMarkFitsABlock(t *testing.T) {
	b, e := Encode(of(top, top, rows(lastKey-most+1, most, 1)...))
	if len(b) != 6+6+1+most*10 || len(b) > api.BlockSize || e != api.OK {
		t.Errorf("the longest mark has %d bytes, %d", len(b), e)
	}
}

// P12.2: numbers that Take refuses.

func TestDecodeOfNoByte(t *testing.T) {
	wantFault(t, nil, api.ErrShort)
	wantFault(t, []byte{}, api.ErrShort)
}

// badNumbers: bytes that Take refuses, and how.
func badNumbers() map[string]api.Errno {
	return map[string]api.Errno{
		"": api.ErrShort, "\x80": api.ErrShort, "\xff\xff": api.ErrShort, "\x80\x80\x80\x80\x80\x80\x80\x80\x80": api.ErrShort,
		"\x80\x00": api.ErrForm, "\xff\x80\x00": api.ErrForm, "\x85\x00": api.ErrForm, "\x81\x00": api.ErrForm,
		"\x80\x80\x80\x80\x80\x80\x80\x80\x80\x02": api.ErrForm, "\xff\xff\xff\xff\xff\xff\xff\xff\xff\xff": api.ErrForm,
		"\x80\x80\x80\x80\x80\x80\x80\x80\x80\x80": api.ErrForm, "\x80\x80\x80\x80\x80\x80\x80\x80\x80\x00": api.ErrForm,
	}
}

// heads: what may stand ahead of a number, from nothing to all keys but the last one.
func heads() [][]byte {
	return [][]byte{
		{}, {1}, {1, 1}, {0, 0}, {1, 0}, {0, 1}, {1, 1, 1}, {1, 1, 2, 5}, {1, 1, 2, 0}, {1, 1, 3, 9, 5}, numbers(top, top, 1), form(of(3, 300, rows(0, most, 7)...))[:3+most],
	}
}

func TestDecodeOfBadNumbers(t *testing.T) {
	for bad, code := range badNumbers() {
		for _, head := range heads() {
			wantFault(t, slices.Concat(head, []byte(bad)), code)
			if code != api.ErrForm {
				continue
			}
			for _, behind := range [][]byte{{0}, {1, 1, 0}, {0x80}, {0x80, 0}, {65}, bytes.Repeat([]byte{1}, 99)} {
				wantFault(t, slices.Concat(head, []byte(bad), behind), code)
			}
		}
	}
}

// TestDecodeOfAFaultAtEachKey: what is at fault is told at whichever key it stands.
func TestDecodeOfAFaultAtEachKey(t *testing.T) {
	for at := range most {
		head := form(of(1, 1, rows(0, most, 1)...))[:3+at]
		wantFault(t, head, api.ErrShort)
		wantFault(t, slices.Concat(head, []byte{0xff}), api.ErrShort)
		wantFault(t, slices.Concat(head, []byte{0x80, 0}, bytes.Repeat([]byte{1}, most)), api.ErrForm)
	}
}

// P12.2: numbers that are too great.

func TestDecodeOfEachCount(t *testing.T) {
	for _, count := range counts() {
		wantDecode(t, numbers(uint64(count), 1, 0), of(count, 1), api.OK)
		wantDecode(t, numbers(1, uint64(count), 0), of(1, count), api.OK)
		wantDecode(t, numbers(uint64(count), uint64(count), 1, 9), of(count, count, 9), api.OK)
	}
	for _, count := range greatCounts() {
		for _, behind := range [][]byte{nil, {0}, {1, 0}, {1, 1, 5}, {0x80, 0}, {1, 65}, {1, 0, 9}, {0x80}} {
			wantFault(t, append(number(count), behind...), api.ErrForm)
			wantFault(t, slices.Concat(number(1), number(count), behind), api.ErrForm)
			wantFault(t, slices.Concat(number(0), number(count), behind), api.ErrForm)
			wantFault(t, slices.Concat(number(top), number(count), behind), api.ErrForm)
		}
	}
}

func TestDecodeOfSoManyKeys(t *testing.T) {
	for count := range most + 1 {
		keys := rows(3, count, 1000)
		wantDecode(t, form(of(1, 1, keys...)), of(1, 1, keys...), api.OK)
	}
	for _, count := range []uint64{65, 66, 127, 128, 255, 256, 256 + 1, 1 << 16, 1 << 32, 1<<32 + 1, 1 << 62, 1<<63 - 1, 1 << 63, 1<<63 + 1, 1<<64 - 1} {
		for _, behind := range [][]byte{nil, {0}, {0x80, 0}, {0x80}, {5, 5}, numbers(rows(0, 64, 1)...), numbers(rows(0, 65, 1)...), numbers(rows(0, 66, 1)...)} {
			wantFault(t, append(numbers(1, 1, count), behind...), api.ErrLong)
			wantFault(t, append(numbers(0, 0, count), behind...), api.ErrLong)
			wantFault(t, append(numbers(1, 0, count), behind...), api.ErrLong)
		}
	}
}

func TestDecodeOfHowManyThereAreNot(t *testing.T) {
	b := form(of(1, 1, rows(0, 16, 1)...))
	for count := range byte(most + 2) {
		b[2] = count
		wantRead(t, b)
	}
	wantFault(t, []byte{1, 1, 2, 5}, api.ErrShort)
	wantFault(t, []byte{1, 1, 64}, api.ErrShort)
	wantFault(t, []byte{1, 1, 1, 5, 6}, api.ErrTail)
	wantFault(t, []byte{1, 1, 0, 5}, api.ErrTail)
}

// P12.2: the end, and marks that aren't right.

func TestDecodeOfEachMarkCutAndGrown(t *testing.T) {
	d := &dice{2}
	marks := []api.Mark{{}, of(1, 1), of(top, top, lastKey), of(3, 300, 1, 128)}
	for i := range 60 {
		marks = append(marks, d.mark(i%(most+1)))
	}
	for _, m := range marks {
		b := form(m)
		for cut := range b {
			wantFault(t, b[:cut], api.ErrShort)
		}
		for _, tail := range [][]byte{{0}, {1}, {0x80}, {0x80, 0}, {255}, b} {
			wantFault(t, slices.Concat(b, tail), api.ErrTail)
		}
	}
}

func TestDecodeOfMarksThatAreNotRight(t *testing.T) {
	marks := []api.Mark{of(1, 0), of(0, 1), of(0, 0, 1), of(0, 0, 0), of(1, 0, 1), of(0, 1, 1), of(top, 0), of(0, top), of(0, 0, rows(0, most, 1)...)}
	for _, keys := range notRising() {
		if len(keys) <= most {
			marks = append(marks, of(1, 1, keys...), of(0, 0, keys...), of(top, 1, keys...))
		}
	}
	for _, m := range marks {
		b := form(m)
		wantFault(t, b, api.ErrArg)
		for _, tail := range [][]byte{{0}, {1}, {0x80}, {0x80, 0}, b} {
			wantFault(t, slices.Concat(b, tail), api.ErrTail)
		}
		for cut := range b {
			wantFault(t, b[:cut], api.ErrShort)
		}
	}
}

// TestDecodeTellsTheFirstFault: what stands behind a fault plays no part.
func TestDecodeTellsTheFirstFault(t *testing.T) {
	great := number(top + 1)
	wantFault(t, great, api.ErrForm)
	wantFault(t, slices.Concat(great, []byte{0x80}), api.ErrForm)
	wantFault(t, slices.Concat(great, great, []byte{65}), api.ErrForm)
	wantFault(t, slices.Concat([]byte{0}, great), api.ErrForm)
	wantFault(t, []byte{1, 0x80}, api.ErrShort)
	wantFault(t, []byte{1, 0, 65, 0x80, 0}, api.ErrLong)
	wantFault(t, []byte{1, 0, 1, 0x80, 0, 9}, api.ErrForm)
	wantFault(t, []byte{1, 1, 2, 5, 5}, api.ErrArg)
	wantFault(t, []byte{1, 1, 2, 5, 5, 9}, api.ErrTail)
	wantFault(t, []byte{1, 1, 3, 5, 5}, api.ErrShort)
	wantFault(t, []byte{1, 1, 3, 5, 5, 0x80, 0}, api.ErrForm)
	wantFault(t, []byte{1, 0, 0, 0}, api.ErrTail)
	wantFault(t, []byte{1, 0, 1}, api.ErrShort)
}

// P12.2, P4: one form.

func TestDecodeOfAllShortBytes(t *testing.T) {
	all := [][]byte{{}}
	for from := 0; len(all) < 100000; {
		to := len(all)
		for _, head := range all[from:to] {
			for _, c := range []byte{0, 1, 2, 3, 64, 65, 0x7f, 0x80, 0x81, 0xff} {
				all = append(all, append(slices.Clone(head), c))
			}
		}
		from = to
	}
	seen := map[api.Errno]int{}
	for _, b := range all {
		seen[wantRead(t, b)]++
	}
	for _, e := range []api.Errno{api.OK, api.ErrShort, api.ErrForm, api.ErrLong, api.ErrTail, api.ErrArg} {
		if seen[e] == 0 {
			t.Errorf("no bytes were %d", e)
		}
	}
}

func TestDecodeOfMarksWithOneByteChanged(t *testing.T) {
	d := &dice{3}
	for i := range 60 {
		b := form(d.mark(i % 6))
		for at, was := range b {
			for c := range 256 {
				b[at] = byte(c)
				wantRead(t, b)
			}
			b[at] = was
		}
	}
}

func TestDecodeOfMarksWithBytesTakenOutAndPutIn(t *testing.T) {
	d := &dice{4}
	for range 5000 {
		b := form(d.mark(d.below(most + 1)))
		for range 1 + d.below(3) {
			at := d.below(len(b))
			switch d.below(3) {
			case 0:
				b = slices.Delete(b, at, min(len(b), at+1+d.below(9)))
			case 1:
				b = slices.Insert(b, at, byte(d.next()))
			default:
				b[at] = byte(d.next())
			}
			if len(b) == 0 {
				break
			}
		}
		wantRead(t, b)
	}
}

// P12.3

// inOrder: numbers of all kinds, each greater than the one ahead of it.
func inOrder() []int {
	return []int{math.MinInt, math.MinInt + 1, -top, -1 << 32, -2, -1, 0, 1, 2, 127, 128, 1<<31 - 1, 1 << 31, 1 << 32, 1<<32 + 1, top, top + 1, math.MaxInt - 1, math.MaxInt}
}

func TestCompareAgainstTheOrderOfAttempts(t *testing.T) {
	attempts := [][2]int{}
	for _, batch := range inOrder() {
		for _, attempt := range inOrder() {
			attempts = append(attempts, [2]int{batch, attempt})
		}
	}
	for i, a := range attempts {
		for j, b := range attempts[:i+1] {
			wantCompare(t, b, a, cmp.Compare(j, i))
		}
	}
}

func TestCompareOfFew(t *testing.T) {
	wantCompare(t, [2]int{1, 2}, [2]int{1, 2}, 0)
	wantCompare(t, [2]int{1, 2}, [2]int{1, 3}, -1)
	wantCompare(t, [2]int{1, 99}, [2]int{2, 1}, -1)
	wantCompare(t, [2]int{2, 1}, [2]int{1, 2}, 1)
	wantCompare(t, [2]int{math.MinInt, 0}, [2]int{math.MaxInt, 0}, -1)
	wantCompare(t, [2]int{0, math.MinInt}, [2]int{0, math.MaxInt}, -1)
	wantCompare(t, [2]int{math.MinInt, math.MaxInt}, [2]int{math.MaxInt, math.MinInt}, -1)
	wantCompare(t, [2]int{math.MinInt, math.MinInt}, [2]int{math.MinInt, math.MinInt}, 0)
}

// P12.4

// judged: what P12.4 asks, written as its words go.
func judged(markBatch int, markAttempt int, batch int, attempt int) api.Errno {
	switch {
	case batch < 1 || attempt < 1:
		return api.ErrArg
	case batch < markBatch || batch == markBatch && attempt < markAttempt:
		return api.ErrFenced
	case batch > markBatch || attempt > markAttempt:
		return api.ErrAhead
	}
	return api.OK
}

func TestJudgeOfAllKinds(t *testing.T) {
	for _, markBatch := range inOrder() {
		for _, markAttempt := range inOrder() {
			m := of(markBatch, markAttempt, 1)
			for _, batch := range inOrder() {
				for _, attempt := range inOrder() {
					if got, want := Judge(m, batch, attempt), judged(markBatch, markAttempt, batch, attempt); got != want {
						t.Fatalf("Judge(%v, %d, %d) is %d, not %d", m, batch, attempt, got, want)
					}
				}
			}
		}
	}
}

func TestJudgeTellsArgFirst(t *testing.T) {
	for _, below := range []int{0, -1, -7, -top, math.MinInt} {
		for _, other := range []int{math.MinInt, -1, 0, 1, 3, 7, 9, top, top + 1, math.MaxInt} {
			wantJudge(t, 3, 7, below, other, api.ErrArg)
			wantJudge(t, 3, 7, other, below, api.ErrArg)
			wantJudge(t, 0, 0, below, other, api.ErrArg)
			wantJudge(t, below, other, below, other, api.ErrArg)
			wantJudge(t, other, below, other, below, api.ErrArg)
		}
	}
}

func TestJudgeOfTheFirstMark(t *testing.T) {
	wantJudge(t, 0, 0, 1, 1, api.ErrAhead)
	wantJudge(t, 0, 0, 1, top, api.ErrAhead)
	wantJudge(t, 0, 0, 0, 0, api.ErrArg)
}

func TestJudgeRoundTheMark(t *testing.T) {
	wantJudge(t, 5, 1, 5, 1, api.OK)
	wantJudge(t, 5, 1, 5, 2, api.ErrAhead)
	wantJudge(t, 5, 1, 6, 1, api.ErrAhead)
	wantJudge(t, 5, 1, 99, 1, api.ErrAhead)
	wantJudge(t, 5, 1, 4, 1, api.ErrFenced)
	wantJudge(t, 5, 1, 4, math.MaxInt, api.ErrFenced)
	wantJudge(t, 5, 9, 6, 8, api.ErrAhead)
	wantJudge(t, 5, 9, 5, 8, api.ErrFenced)
	wantJudge(t, 5, 9, 5, 1, api.ErrFenced)
	wantJudge(t, top, top, top, top, api.OK)
	wantJudge(t, top, top, top, top+1, api.ErrAhead)
	wantJudge(t, math.MaxInt, math.MaxInt, math.MaxInt, math.MaxInt, api.OK)
}

// TestJudgeOfMarksThatAreNotRight: only where the attempts stand is asked.
func TestJudgeOfMarksThatAreNotRight(t *testing.T) {
	wantJudge(t, 3, 0, 3, 1, api.ErrAhead)
	wantJudge(t, 3, 0, 2, 9, api.ErrFenced)
	wantJudge(t, 0, 3, 1, 1, api.ErrAhead)
	wantJudge(t, -3, 7, 1, 1, api.ErrAhead)
	wantJudge(t, 3, math.MinInt, 3, 1, api.ErrAhead)
	wantJudge(t, math.MinInt, math.MinInt, math.MaxInt, math.MaxInt, api.ErrAhead)
	wantJudge(t, math.MaxInt, math.MinInt, 1, 1, api.ErrFenced)
	wantJudge(t, top+1, top+2, top+1, top+2, api.OK)
	wantJudge(t, top+1, top+2, top+1, top+1, api.ErrFenced)
}

// P12.5: Has.

func TestHasOfEachPlace(t *testing.T) {
	for _, keys := range [][]uint64{{2, 5, 9}, {9, 5, 2}, {5, 9, 2}, {2, 9, 5}, {5, 5, 2, 9, 9}} {
		for _, m := range []api.Mark{of(1, 1, keys...), of(0, 0, keys...), of(-1, top+1, keys...)} {
			for key := range uint64(12) {
				wantHas(t, m, key, key == 2 || key == 5 || key == 9)
			}
			wantHas(t, m, fillKey, false)
			wantHas(t, m, 1<<32+5, false)
			wantHas(t, m, 1<<63+5, false)
			wantHas(t, m, lastKey, false)
		}
	}
}

func TestHasOfFewAndMany(t *testing.T) {
	for _, key := range someKeys() {
		wantHas(t, api.Mark{}, key, false)
		wantHas(t, of(1, 1), key, false)
		wantHas(t, of(1, 1, key), key, true)
		wantHas(t, of(1, 1, key), key+1, false)
		wantHas(t, of(1, 1, key), key-1, false)
		wantHas(t, of(1, 1, lastKey, key, 0), key, true)
	}
	many := rows(10, 1000, 2)
	falling := slices.Clone(many)
	slices.Reverse(falling)
	for key := range uint64(2100) {
		want := key >= 10 && key < 2010 && key%2 == 0
		if Has(of(1, 1, many...), key) != want || Has(of(1, 1, falling...), key) != want {
			t.Errorf("Has of many keys, of %d, isn't %t", key, want)
		}
	}
}

// P12.5: Rising.

func TestRising(t *testing.T) {
	wantRising(t, nil, true)
	wantRising(t, []uint64{}, true)
	for _, key := range someKeys() {
		wantRising(t, []uint64{key}, true)
		wantRising(t, []uint64{key, key}, false)
		if key > 0 {
			wantRising(t, []uint64{key - 1, key}, true)
			wantRising(t, []uint64{key, key - 1}, false)
			wantRising(t, []uint64{0, key}, true)
			wantRising(t, []uint64{key, 0}, false)
		}
	}
	wantRising(t, someKeys(), true)
	for _, keys := range notRising() {
		wantRising(t, keys, false)
	}
}

// TestRisingOfMany: how many there are plays no part.
func TestRisingOfMany(t *testing.T) {
	for _, count := range []int{64, 65, 100, 5000} {
		wantRising(t, rows(0, count, 1), true)
		wantRising(t, rows(lastKey-uint64(count)+1, count, 1), true)
		for _, at := range []int{1, count / 2, count - 1} {
			keys := rows(7, count, 3)
			keys[at] = keys[at-1]
			wantRising(t, keys, false)
			keys[at]--
			wantRising(t, keys, false)
		}
	}
}

// P12.5: Union.

func TestUnionOfFew(t *testing.T) {
	for _, c := range []struct{ a, b, want []uint64 }{
		{nil, nil, nil},
		{[]uint64{}, nil, nil},
		{nil, []uint64{}, nil},
		{[]uint64{5}, nil, []uint64{5}},
		{nil, []uint64{5}, []uint64{5}},
		{[]uint64{5}, []uint64{5}, []uint64{5}},
		{[]uint64{5, 5, 5}, nil, []uint64{5}},
		{[]uint64{1, 2}, []uint64{2, 3}, []uint64{1, 2, 3}},
		{[]uint64{1, 3, 5}, []uint64{2, 4, 6}, []uint64{1, 2, 3, 4, 5, 6}},
		{[]uint64{1, 2, 3}, []uint64{1, 2, 3}, []uint64{1, 2, 3}},
		{[]uint64{4, 5, 6}, []uint64{1, 2, 3}, []uint64{1, 2, 3, 4, 5, 6}},
		{[]uint64{9, 1, 9, 1}, []uint64{5, 1, 5}, []uint64{1, 5, 9}},
		{[]uint64{lastKey, 0}, []uint64{1 << 63, 0, lastKey}, []uint64{0, 1 << 63, lastKey}},
		{[]uint64{1 << 63, 1<<63 - 1}, []uint64{1 << 32, 1}, []uint64{1, 1 << 32, 1<<63 - 1, 1 << 63}},
	} {
		wantUnion(t, c.a, c.b, c.want)
		wantUnion(t, c.b, c.a, c.want)
	}
}

// TestUnionOfMany: it has no limit.
func TestUnionOfMany(t *testing.T) {
	wantUnion(t, rows(0, 64, 2), rows(1, 64, 2), rows(0, 128, 1))
	wantUnion(t, rows(0, 300, 1), rows(200, 300, 1), rows(0, 500, 1))
}

func TestUnionAgainstAListThatIsKept(t *testing.T) {
	d := &dice{5}
	for i := range 600 {
		span := 1 + i%90
		lists := [2][]uint64{}
		for side := range lists {
			for range d.below(70) {
				key := uint64(d.below(span))
				if i%3 == 0 {
					key = d.next() >> d.below(64)
				}
				lists[side] = append(lists[side], key)
			}
		}
		wantUnion(t, lists[0], lists[1], kept(lists[0], lists[1]))
	}
}

func TestUnionRisesAndHasBoth(t *testing.T) {
	d := &dice{6}
	for range 200 {
		a, b := d.keys(d.below(40)), d.keys(d.below(40))
		all := Union(a, b)
		wantRising(t, all, true)
		for _, key := range slices.Concat(a, b) {
			wantHas(t, of(1, 1, all...), key, true)
		}
		wantUnion(t, all, a, all)
		wantUnion(t, all, all, all)
	}
}

// P12.6: what the tests above ask of each single call (roomy, spoil), and lists that share memory.

func TestUnionOfListsThatShareMemory(t *testing.T) {
	all := []uint64{5, 1, 9, 5, 2, 7, 7, 7}
	was := slices.Clone(all)
	for from := range all {
		for to := from; to <= len(all); to++ {
			for _, a := range [][]uint64{all[from:to], all[from:to:to]} {
				got := Union(a, all[to:])
				if !slices.Equal(got, kept(was[from:to], was[to:])) {
					t.Errorf("Union(%d, %d) is %d", was[from:to], was[to:], got)
				}
				spoil(got, 3)
				again := Union(a, all)
				if !slices.Equal(again, kept(was[from:to], was)) {
					t.Errorf("Union(%d, %d) is %d", was[from:to], was, again)
				}
				spoil(again, 3)
				if !slices.Equal(all, was) {
					t.Fatalf("what was handed in has become %d", all)
				}
			}
		}
	}
}

// TestUnionOfOneListIsNewMemory: also where there is nothing to put together.
func TestUnionOfOneListIsNewMemory(t *testing.T) {
	for _, keys := range [][]uint64{{1}, {1, 2, 3}, rows(0, most, 1)} {
		wantUnion(t, keys, nil, keys)
		wantUnion(t, nil, keys, keys)
		wantUnion(t, keys, keys[:0], keys)
		wantUnion(t, keys[:0], keys, keys)
	}
}

// TestCallsAreAloneInWhatTheyAnswer: answers stay what they were through later calls.
func TestCallsAreAloneInWhatTheyAnswer(t *testing.T) {
	d := &dice{7}
	marks, pages, unions := []api.Mark{}, [][]byte{}, [][]uint64{}
	for i := range 50 {
		m := d.mark(i)
		b, _ := Encode(m)
		back, _ := Decode(b)
		union := Union(m.Keys, []uint64{7})
		_ = append(b, filler)
		_ = append(back.Keys, fillKey)
		_ = append(union, fillKey)
		marks, pages, unions = append(marks, back), append(pages, b), append(unions, union)
	}
	d = &dice{7}
	for i := range 50 {
		m := d.mark(i)
		if !same(marks[i], m) || !bytes.Equal(pages[i], form(m)) || !slices.Equal(unions[i], kept(m.Keys, []uint64{7})) {
			t.Errorf("answer %d has become %v, %x, %d", i, marks[i], pages[i], unions[i])
		}
	}
}
