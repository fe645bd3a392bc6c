package wire

import (
	"bytes"
	"encoding/binary"
	"math"
	"testing"

	"reprise/api"
)

// P2.1, and example 1.

func TestNumbersOfTheExample(t *testing.T) {
	wantBytes(t, "Put(0)", Put(0), []byte{0})
	wantBytes(t, "Put(127)", Put(127), []byte{0x7f})
	wantBytes(t, "Put(128)", Put(128), []byte{0x80, 1})
	wantBytes(t, "Put(300)", Put(300), []byte{0xac, 2})
	wantBytes(t, "Put(2^64 - 1)", Put(math.MaxUint64), repeat(0xff, 9, 1))
	wantTake(t, []byte{0xac, 2, 0xff}, 300, 2, api.OK)
	wantTake(t, []byte{0x80}, 0, 0, api.ErrShort)
	wantTake(t, []byte{}, 0, 0, api.ErrShort)
	wantTake(t, nil, 0, 0, api.ErrShort)
	wantTake(t, []byte{0x80, 0}, 0, 0, api.ErrForm)
	wantTake(t, repeat(0xff, 10), 0, 0, api.ErrForm)
	wantTake(t, repeat(0x80, 9, 2), 0, 0, api.ErrForm)
	wantTake(t, repeat(0x80, 9), 0, 0, api.ErrShort)
}

func TestPutIsTheShortestForm(t *testing.T) {
	for _, x := range append(rises(), scattered(5000)...) {
		b := Put(x)
		wantBytes(t, "Put", b, form(x))
		wantBytes(t, "Put", b, binary.AppendUvarint(nil, x))
		if len(b) > 1 && b[len(b)-1] == 0 {
			t.Errorf("Put(%d) ends with 00", x)
		}
	}
}

func TestPutRisesBySevenBits(t *testing.T) {
	for bits := 1; bits <= 64; bits++ {
		x := uint64(1) << (bits - 1)
		if n := len(Put(x)); n != (bits+6)/7 {
			t.Errorf("Put(2^%d) has %d bytes", bits-1, n)
		}
	}
}

func TestTakeIsWhatWasPut(t *testing.T) {
	for _, x := range append(rises(), scattered(5000)...) {
		b := form(x)
		wantTake(t, b, x, len(b), api.OK)
		for _, behind := range [][]byte{{0}, {1}, {0x80}, {0xff, 0xff}, repeat(0x80, 12, 0)} {
			wantTake(t, append(form(x), behind...), x, len(b), api.OK)
		}
	}
}

func TestTakeOfWhatEndsTooEarly(t *testing.T) {
	for _, x := range append(rises(), scattered(500)...) {
		b := form(x)
		for n := range len(b) {
			wantTake(t, b[:n], 0, 0, api.ErrShort)
		}
	}
}

func TestTakeOfALastByteOfNothing(t *testing.T) {
	wantTake(t, []byte{0}, 0, 1, api.OK)
	for n := 1; n <= 9; n++ {
		wantTake(t, repeat(0x80, n, 0), 0, 0, api.ErrForm)
		wantTake(t, repeat(0xff, n, 0), 0, 0, api.ErrForm)
		wantTake(t, repeat(0xff, n, 0, 1), 0, 0, api.ErrForm)
	}
}

func TestTakeOfATenthByte(t *testing.T) {
	wantTake(t, repeat(0x80, 9, 1), 1<<63, 10, api.OK)
	wantTake(t, repeat(0xff, 9, 1), math.MaxUint64, 10, api.OK)
	wantTake(t, repeat(0x80, 8, 0x81, 1), 1<<63|1<<56, 10, api.OK)
	for c := 2; c < 256; c++ {
		// A tenth byte above 01 is at fault on the spot, its highest bit plays no part.
		wantTake(t, repeat(0x80, 9, byte(c)), 0, 0, api.ErrForm)
		wantTake(t, repeat(0xff, 9, byte(c), 1), 0, 0, api.ErrForm)
	}
	wantTake(t, repeat(0x80, 4000), 0, 0, api.ErrForm)
}

func TestTakeHasOneForm(t *testing.T) {
	all := byteStrings(6, 0, 1, 0x7f, 0x80, 0xff)
	for _, head := range [][]byte{repeat(0x80, 8), repeat(0xff, 8), repeat(0x80, 9)} {
		for _, b := range byteStrings(2, 0, 1, 2, 0x7f, 0x80, 0x81, 0xff) {
			all = append(all, append(bytes.Clone(head), b...))
		}
	}
	for _, b := range all {
		x, n, e := Take(b)
		switch e {
		case api.OK:
			wantBytes(t, "what was taken", form(x), b[:n])
		case api.ErrShort, api.ErrForm:
			wantTake(t, b, 0, 0, e)
			if known, n := binary.Uvarint(b); n > 0 && bytes.HasPrefix(b, form(known)) {
				t.Errorf("Take(%x) is %d", b, e)
			}
		default:
			t.Errorf("Take(%x) is %d", b, e)
		}
	}
}

// P2.2.

func TestJoin(t *testing.T) {
	wantBytes(t, "Join()", Join(), nil)
	wantBytes(t, "Join(nil)", Join(nil), nil)
	wantBytes(t, "Join of nothings", Join(nil, []byte{}, nil), nil)
	wantBytes(t, "Join of one", Join([]byte("ab")), []byte("ab"))
	wantBytes(t, "Join of two", Join([]byte("b"), []byte("a")), []byte("ba"))
	wantBytes(t, "Join of more", Join([]byte("a"), nil, []byte("bcd"), []byte{}, []byte{0, 0xff}), []byte("abcd\x00\xff"))
	part := []byte("ab")
	wantBytes(t, "Join of one part, again and again", Join(part, part[:1], part[1:], part), []byte("ababab"))
}

func TestJoinOfMany(t *testing.T) {
	parts := [][]byte{}
	want := []byte{}
	for i, x := range scattered(3000) {
		part := repeat(byte(x), i%5)
		parts = append(parts, part)
		want = append(want, part...)
	}
	wantBytes(t, "Join of many", Join(parts...), want)
}

// P2.3, and example 2.

func TestRunsOfTheExample(t *testing.T) {
	wantBytes(t, "Run(ab)", Run([]byte("ab")), []byte{2, 0x61, 0x62})
	wantTakeRun(t, []byte("\x02abc"), []byte("ab"), 3, api.OK)
	wantTakeRun(t, []byte("\x03ab"), nil, 0, api.ErrShort)
	wantTakeRun(t, []byte{0x80, 0}, nil, 0, api.ErrForm)
}

func TestRunsOfAllLengths(t *testing.T) {
	for _, count := range []int{0, 1, 2, 126, 127, 128, 129, 255, 256, 300, 16383, 16384, 16385} {
		s := make([]byte, count)
		for i := range s {
			s[i] = byte(i * 7)
		}
		b := Run(s)
		head := form(uint64(count))
		wantBytes(t, "Run", b, append(head, s...))
		wantTakeRun(t, b, s, len(b), api.OK)
		wantTakeRun(t, append(bytes.Clone(b), 1, 2, 3), s, len(b), api.OK)
		if count > 0 {
			wantTakeRun(t, b[:len(b)-1], nil, 0, api.ErrShort)
			wantTakeRun(t, b[:len(head)], nil, 0, api.ErrShort)
		}
	}
	wantBytes(t, "Run(nil)", Run(nil), []byte{0})
	wantTakeRun(t, []byte{0}, nil, 1, api.OK)
	wantTakeRun(t, []byte{0, 9}, nil, 1, api.OK)
}

func TestTakeRunOfMoreThanIsLeft(t *testing.T) {
	for _, x := range append(rises(), scattered(500)...) {
		if x < 4 {
			continue
		}
		wantTakeRun(t, append(form(x), 1, 2, 3), nil, 0, api.ErrShort)
	}
}

func TestTakeRunHasTheErrorOfItsNumber(t *testing.T) {
	wantTakeRun(t, nil, nil, 0, api.ErrShort)
	wantTakeRun(t, []byte{0x80}, nil, 0, api.ErrShort)
	wantTakeRun(t, repeat(0xff, 9), nil, 0, api.ErrShort)
	wantTakeRun(t, []byte{0x80, 0, 1, 2, 3}, nil, 0, api.ErrForm)
	wantTakeRun(t, repeat(0x80, 9, 2), nil, 0, api.ErrForm)
	wantTakeRun(t, repeat(0xff, 12), nil, 0, api.ErrForm)
}

// P2.4, and example 3.

func TestNumsOfTheExample(t *testing.T) {
	wantNums(t, []int{5, 300}, []byte{2, 5, 0xac, 2}, api.OK)
	wantNums(t, []int{-1}, nil, api.ErrArg)
	wantNums(t, []int{}, []byte{0}, api.OK)
	b := []byte{2, 5, 0xac, 2, 9}
	wantTakeNums(t, b, 2, []int{5, 300}, 4, api.OK)
	wantTakeNums(t, b, 1, nil, 0, api.ErrLong)
	wantTakeNums(t, []byte{0}, 0, nil, 1, api.OK)
	wantTakeNums(t, []byte{0}, -1, nil, 0, api.ErrLong)
}

func TestNumsOfEdges(t *testing.T) {
	wantNums(t, nil, []byte{0}, api.OK)
	wantNums(t, []int{0}, []byte{1, 0}, api.OK)
	wantNums(t, []int{1<<62 + 1}, append([]byte{1}, form(1<<62+1)...), api.OK)
	wantNums(t, []int{math.MaxInt}, append([]byte{1}, form(math.MaxInt64)...), api.OK)
	wantNums(t, []int{1, 2, -1}, nil, api.ErrArg)
	wantNums(t, []int{-1, 1, 2}, nil, api.ErrArg)
	wantNums(t, []int{math.MaxInt, math.MinInt}, nil, api.ErrArg)
	wantNums(t, []int{3, 1, 2, 1}, []byte{4, 3, 1, 2, 1}, api.OK)
}

func TestNumsOfAllLengths(t *testing.T) {
	for _, count := range []int{0, 1, 2, 127, 128, 129, 16384} {
		list := make([]int, count)
		want := form(uint64(count))
		for i, x := range scattered(count) {
			list[i] = int(x >> 2)
			want = append(want, form(x>>2)...)
		}
		wantNums(t, list, want, api.OK)
		for _, most := range []int{count, count + 1, math.MaxInt} {
			wantTakeNums(t, want, most, list, len(want), api.OK)
			wantTakeNums(t, append(bytes.Clone(want), 0x80, 0), most, list, len(want), api.OK)
		}
		for _, most := range []int{count - 1, -1, math.MinInt} {
			wantTakeNums(t, want, most, nil, 0, api.ErrLong)
		}
		for n := range min(len(want), 300) {
			wantTakeNums(t, want[:n], count, nil, 0, api.ErrShort)
		}
	}
}

func TestTakeNumsOfGreatNumbers(t *testing.T) {
	one := func(x uint64) []byte { return append([]byte{1}, form(x)...) }
	wantTakeNums(t, one(1<<62-1), 1, []int{1<<62 - 1}, 10, api.OK)
	wantTakeNums(t, one(1<<62), 1, []int{1 << 62}, 10, api.OK)
	for _, x := range []uint64{1<<62 + 1, math.MaxInt64, 1 << 63, math.MaxUint64} {
		wantTakeNums(t, one(x), 1, nil, 0, api.ErrForm)
		wantTakeNums(t, append([]byte{2, 7}, form(x)...), 2, nil, 0, api.ErrForm)
	}
}

func TestTakeNumsOfMoreThanIsLeft(t *testing.T) {
	for _, x := range append(rises(), scattered(500)...) {
		b := append(form(x), 1, 2, 3)
		switch {
		case x > math.MaxInt64:
			wantTakeNums(t, b, math.MaxInt, nil, 0, api.ErrLong)
		case x > 3:
			wantTakeNums(t, b, math.MaxInt, nil, 0, api.ErrShort)
			wantTakeNums(t, b, int(x), nil, 0, api.ErrShort)
			wantTakeNums(t, b, int(x)-1, nil, 0, api.ErrLong)
		}
	}
}

func TestTakeNumsHasItsErrorsInOrder(t *testing.T) {
	// How many there are comes first, with its own fault; most comes behind it, ahead of the numbers.
	for _, most := range []int{math.MinInt, -1, 0, 1, math.MaxInt} {
		wantTakeNums(t, nil, most, nil, 0, api.ErrShort)
		wantTakeNums(t, []byte{0x82}, most, nil, 0, api.ErrShort)
		wantTakeNums(t, []byte{0x82, 0}, most, nil, 0, api.ErrForm)
		wantTakeNums(t, repeat(0xff, 10), most, nil, 0, api.ErrForm)
	}
	wantTakeNums(t, []byte{2, 0x80, 0}, 1, nil, 0, api.ErrLong)
	wantTakeNums(t, []byte{2}, 1, nil, 0, api.ErrLong)
	// The number that stands first has its fault told first.
	above := form(1<<62 + 1)
	wantTakeNums(t, append(append([]byte{2}, above...), 0x80), 2, nil, 0, api.ErrForm)
	wantTakeNums(t, []byte{2, 0x80, 0, 0x80}, 2, nil, 0, api.ErrForm)
	wantTakeNums(t, []byte{3, 1, 0x80, 0}, 3, nil, 0, api.ErrForm)
	wantTakeNums(t, []byte{3, 1, 0x80}, 3, nil, 0, api.ErrShort)
	wantTakeNums(t, append([]byte{1}, repeat(0x80, 9, 2)...), 3, nil, 0, api.ErrForm)
}

// P2.5, and example 4.

func TestWords(t *testing.T) {
	wantBytes(t, "Word(1)", Word(1), []byte{1, 0, 0, 0, 0, 0, 0, 0})
	wantBytes(t, "Word(2^63)", Word(1<<63), []byte{0, 0, 0, 0, 0, 0, 0, 0x80})
	wantBytes(t, "Word", Word(0x0102030405060708), []byte{8, 7, 6, 5, 4, 3, 2, 1})
	for _, x := range append(rises(), scattered(2000)...) {
		b := binary.LittleEndian.AppendUint64(nil, x)
		wantBytes(t, "Word", Word(x), b)
		wantTakeWord(t, b, x, api.OK)
		wantTakeWord(t, append(bytes.Clone(b), 0xff), x, api.OK)
		for n := range len(b) {
			wantTakeWord(t, b[:n], 0, api.ErrShort)
		}
	}
	wantTakeWord(t, nil, 0, api.ErrShort)
}

// P2.6.

func TestWhatIsHandedInStays(t *testing.T) {
	for _, b := range [][]byte{
		{}, {0}, {5}, {0xac, 2}, {0x80}, {0x80, 0}, repeat(0xff, 9, 1), repeat(0xff, 10),
		[]byte("\x02ab"), []byte("\x02abc"), []byte("\x03ab"), {2, 5, 0xac, 2, 9}, Word(77), repeat(7, 200),
	} {
		in := roomy(b)
		Take(in)
		wantRoomy(t, "Take", in, b)
		TakeRun(in)
		wantRoomy(t, "TakeRun", in, b)
		TakeNums(in, 2)
		wantRoomy(t, "TakeNums", in, b)
		TakeWord(in)
		wantRoomy(t, "TakeWord", in, b)
		Run(in)
		wantRoomy(t, "Run", in, b)
		next := roomy([]byte("next"))
		Join(in, next)
		wantRoomy(t, "Join's first part", in, b)
		wantRoomy(t, "Join's second part", next, []byte("next"))
	}
}

func TestTheListsHandedInStay(t *testing.T) {
	parts := [][]byte{[]byte("a"), []byte("b"), []byte("spare")}
	Join(parts[:2]...)
	if string(parts[0]) != "a" || string(parts[1]) != "b" || string(parts[2]) != "spare" {
		t.Errorf("Join's parts have become %q", parts)
	}
	for _, list := range [][]int{{1, 2, 77, 78}, {1, -1, 77, 78}} {
		old := [4]int(list)
		Nums(list[:2])
		if old != [4]int(list) {
			t.Errorf("Nums' list has become %d", list)
		}
	}
}

func TestWhatIsAnsweredIsNew(t *testing.T) {
	one := roomy([]byte("ab"))
	spoil(Join(one))
	wantRoomy(t, "Join of one part", one, []byte("ab"))
	spoil(Join(one, nil))
	spoil(Join(nil, one))
	wantRoomy(t, "Join with nothing", one, []byte("ab"))
	none := roomy(nil)
	spoil(Join(none))
	wantRoomy(t, "Join of nothing", none, nil)
	spoil(Run(one))
	spoil(Run(none))
	wantRoomy(t, "Run", one, []byte("ab"))
	wantRoomy(t, "Run of nothing", none, nil)
	for _, b := range [][]byte{[]byte("\x02ab"), []byte("\x02abcdef"), {0}, {0, 1, 2}} {
		in := roomy(b)
		s, _, _ := TakeRun(in)
		spoil(s)
		wantRoomy(t, "TakeRun", in, b)
	}
}

func TestNoCallKeepsWhatItAnswered(t *testing.T) {
	for range 2 {
		for _, x := range rises() {
			b := Put(x)
			wantBytes(t, "Put", b, form(x))
			spoil(b)
			w := Word(x)
			wantBytes(t, "Word", w, binary.LittleEndian.AppendUint64(nil, x))
			spoil(w)
		}
		b, e := Nums([]int{5, 300})
		wantBytes(t, "Nums", b, []byte{2, 5, 0xac, 2})
		list, _, _ := TakeNums(b, 2)
		spoil(b)
		if len(list) != 2 || list[0] != 5 || list[1] != 300 || e != api.OK {
			t.Errorf("TakeNums has become %d", list)
		}
		spoil(list)
		spoil(Join())
		spoil(Run(nil))
	}
}

func TestWhatIsHandedInMayChangeLater(t *testing.T) {
	in := []byte("\x02ab")
	s, _, _ := TakeRun(in)
	joined := Join(in)
	run := Run(in)
	spoil(in)
	wantBytes(t, "TakeRun's run", s, []byte("ab"))
	wantBytes(t, "Join's bytes", joined, []byte("\x02ab"))
	wantBytes(t, "Run's bytes", run, []byte("\x03\x02ab"))
}
