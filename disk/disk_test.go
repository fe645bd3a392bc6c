package disk

import (
	"math"
	"slices"
	"testing"

	"reprise/api"
)

// The three examples.

func TestExampleBlocks(t *testing.T) {
	d := wantNew(t, 3)
	wantWrite(t, d, 1, "ab", api.OK)
	wantRead(t, d, 1, "ab", api.OK)
	wantRead(t, d, 0, "", api.OK)
	wantRead(t, d, 3, "", api.ErrBlock)
	wantRead(t, d, -1, "", api.ErrBlock)
	wantWrite(t, d, 3, long(2000), api.ErrBlock)
	wantWrite(t, d, 0, long(1025), api.ErrLong)
	wantCounts(t, d, 2, 1)
}

func TestExampleCut(t *testing.T) {
	d := wantNew(t, 3)
	wantWrite(t, d, 1, "ab", api.OK)
	d.Cut(1)
	wantWrite(t, d, 0, "c", api.OK)
	wantWrite(t, d, 0, "d", api.ErrDown)
	wantDown(t, d, true)
	wantRead(t, d, 0, "", api.ErrDown)
	wantWrite(t, d, 9, "e", api.ErrDown)
	wantImage(t, d, []string{"c", "ab", ""})
	d.On()
	wantRead(t, d, 0, "c", api.OK)
	wantWrite(t, d, 0, "e", api.OK)
	wantWrite(t, d, 2, "f", api.OK)
	wantImage(t, d, []string{"e", "ab", "f"})
}

func TestExampleRefused(t *testing.T) {
	d := wantNew(t, 3)
	d.Cut(0)
	wantWrite(t, d, 7, "x", api.ErrBlock)
	wantDown(t, d, false)
	wantWrite(t, d, 0, "x", api.ErrDown)
	wantDown(t, d, true)
	wantNoNew(t, 0)
	wantNoNew(t, 65)
	wantNoLoad(t, nil, api.ErrArg)
}

// P8.1

func TestNewOfEachNumber(t *testing.T) {
	for count := 1; count <= 64; count++ {
		b := newPairing(t, count)
		b.hold(t)
		// It isn't armed: more writes go through than a disk has blocks.
		for i := range 70 {
			b.put(t, i%count, long(i), api.OK)
		}
		b.hold(t)
	}
}

func TestNewOfNoNumber(t *testing.T) {
	for _, count := range noCounts() {
		wantNoNew(t, count)
	}
}

// listed: so many texts, each of another length.
func listed(count int) []string {
	list := make([]string, count)
	for i := range list {
		list[i] = long(i)
	}
	return list
}

func TestLoadOfEachNumber(t *testing.T) {
	for count := 1; count <= 64; count++ {
		b := loadPairing(t, listed(count))
		b.hold(t)
		for i := range 70 {
			b.put(t, i%count, long(70-i), api.OK)
		}
		b.hold(t)
	}
}

func TestLoadOfNoNumber(t *testing.T) {
	for _, count := range []int{0, 65, 66, 128, 256, 257, 1 << 16} {
		wantNoLoad(t, make([]string, count), api.ErrArg)
	}
	for _, image := range [][][]byte{nil, {}, make([][]byte, 65)} {
		if d, e := Load(image); d != nil || e != api.ErrArg {
			t.Errorf("Load of %d blocks is %v, %d", len(image), d, e)
		}
	}
}

func TestLoadOfBlocksWithoutBytes(t *testing.T) {
	for _, image := range [][][]byte{{nil}, {{}}, {nil, {}, nil}, make([][]byte, 64), make([][]byte, 2, 65)} {
		d, e := Load(image)
		if d == nil || e != api.OK {
			t.Fatalf("Load(%q) is %v, %d", image, d, e)
		}
		b := pairing{d, &model{texts: make([]string, len(image))}}
		b.hold(t)
		b.put(t, len(image)-1, "ab", api.OK)
		b.hold(t)
	}
}

func TestLoadOfLongBlocks(t *testing.T) {
	full := slices.Repeat([]string{long(1024)}, 64)
	loadPairing(t, full).hold(t)
	loadPairing(t, full[:1]).hold(t)
	loadPairing(t, []string{long(1023), "", long(1024)}).hold(t)
	for _, text := range tooLong() {
		for _, count := range []int{1, 2, 3, 64} {
			for i := range count {
				list := listed(count)
				list[i] = text
				wantNoLoad(t, list, api.ErrLong)
			}
		}
	}
}

func TestLoadOfTooManyAndTooLong(t *testing.T) {
	for _, text := range tooLong() {
		for _, i := range []int{0, 1, 63, 64} {
			list := make([]string, 65)
			list[i] = text
			wantNoLoad(t, list, api.ErrArg)
		}
		wantNoLoad(t, slices.Repeat([]string{text}, 65), api.ErrArg)
	}
}

// The nil disk.

func TestNilDisk(t *testing.T) {
	var none *Disk
	numbers := []int{-1, 0, 1, 63, 64, 65, math.MinInt, math.MaxInt}
	for _, n := range numbers {
		none.Cut(n)
		none.On()
		wantDown(t, none, false)
		none.Off()
		wantDown(t, none, false)
		wantRead(t, none, n, "", api.ErrNil)
		for _, text := range []string{"", "ab", long(1024), long(1025)} {
			wantWrite(t, none, n, text, api.ErrNil)
		}
		if e := none.Write(n, nil); e != api.ErrNil {
			t.Errorf("Write(%d, nil) of a nil disk is %d", n, e)
		}
	}
	wantCounts(t, none, 0, 0)
	wantImage(t, none, nil)
	if n := none.Blocks(); n != 0 {
		t.Errorf("Blocks() of a nil disk is %d", n)
	}
}

// P8.2 and P8.3: blocks.

func TestReadAndWriteOfEachBlock(t *testing.T) {
	for _, count := range []int{1, 2, 3, 63, 64} {
		b := newPairing(t, count)
		for i := range count {
			b.put(t, i, long(i+1), api.OK)
			b.get(t, i)
			b.get(t, 0)
			b.get(t, count-1)
		}
		b.hold(t)
	}
}

func TestReadAndWriteOfNoBlock(t *testing.T) {
	for _, count := range []int{1, 2, 3, 63, 64} {
		b := loadPairing(t, listed(count))
		for _, i := range noBlocks(count) {
			wantRead(t, b.Disk, i, "", api.ErrBlock)
			b.put(t, i, "", api.ErrBlock)
			b.put(t, i, "ab", api.ErrBlock)
			// No such block is told ahead of too many bytes.
			for _, text := range tooLong() {
				b.put(t, i, text, api.ErrBlock)
			}
		}
		b.hold(t)
	}
}

func TestReadAndWriteOfADiskThatIsDown(t *testing.T) {
	for _, count := range []int{1, 3, 64} {
		b := loadPairing(t, listed(count))
		b.turn(false)
		for _, i := range append(noBlocks(count), 0, count-1) {
			wantRead(t, b.Disk, i, "", api.ErrDown)
			// That it is down is told ahead of all else.
			for _, text := range append(tooLong(), "", "ab", long(1024)) {
				b.put(t, i, text, api.ErrDown)
			}
		}
		b.hold(t)
		b.turn(true)
		b.hold(t)
	}
}

// P8.3: bytes.

func TestWriteOfEachLength(t *testing.T) {
	b := newPairing(t, 2)
	for _, count := range []int{0, 1, 2, 255, 256, 257, 1022, 1023, 1024} {
		b.put(t, 1, long(count), api.OK)
		b.get(t, 1)
		b.get(t, 0)
		b.look(t)
	}
	for _, text := range tooLong() {
		b.put(t, 0, text, api.ErrLong)
		b.put(t, 1, text, api.ErrLong)
		b.hold(t)
	}
}

func TestWriteAgain(t *testing.T) {
	b := newPairing(t, 3)
	// Longer, shorter, the same, and none: nothing of what was there stays.
	for _, text := range []string{"abcdef", "xyz", "xyz", "", "", "q", long(1024), "r", long(1023), ""} {
		b.put(t, 1, text, api.OK)
		b.look(t)
		b.get(t, 1)
		b.look(t)
	}
	b.hold(t)
}

func TestWriteOfNil(t *testing.T) {
	b := loadPairing(t, []string{"ab", "cd"})
	if e := b.Write(0, nil); e != api.OK {
		t.Errorf("Write(0, nil) is %d", e)
	}
	b.model.write(0, "")
	b.hold(t)
}

// P8.3 and P8.4: the power goes.

func TestCutLetsJustSoManyWritesGoThrough(t *testing.T) {
	for n := range 140 {
		b := newPairing(t, 3)
		b.put(t, 2, "kept", api.OK)
		b.arm(n)
		b.look(t)
		for i := range n {
			b.put(t, i%2, long(i), api.OK)
			wantDown(t, b.Disk, false)
		}
		b.hold(t)
		b.put(t, 0, "lost", api.ErrDown)
		wantDown(t, b.Disk, true)
		b.hold(t)
		b.put(t, 0, "lost", api.ErrDown)
		b.turn(true)
		b.hold(t)
		// It isn't armed any more: more writes go through than went ahead of it.
		for i := range n + 3 {
			b.put(t, i%3, long(i+1), api.OK)
		}
		b.hold(t)
	}
}

func TestCutFindsThePowerGoneAtEachBlock(t *testing.T) {
	list := listed(64)
	for i := range list {
		for _, text := range []string{"", "lost", list[i], long(1024)} {
			b := loadPairing(t, list)
			b.arm(0)
			b.put(t, i, text, api.ErrDown)
			b.look(t)
			b.turn(true)
			b.hold(t)
		}
	}
}

func TestCutFarOff(t *testing.T) {
	for _, n := range []int{1000, 1 << 16, 1 << 32, math.MaxInt - 1, math.MaxInt} {
		b := newPairing(t, 2)
		b.arm(n)
		for i := range 999 {
			b.put(t, i%2, long(i), api.OK)
		}
		b.hold(t)
	}
}

func TestCutBelow0(t *testing.T) {
	for _, n := range []int{-1, -2, -5, -1 << 32, math.MinInt + 1, math.MinInt} {
		// Of a disk that isn't armed, and of one that is.
		for _, armed := range []int{-1, 0, 1, 7} {
			b := newPairing(t, 2)
			b.arm(armed)
			b.arm(n)
			for i := range 20 {
				b.put(t, i%2, long(i), api.OK)
			}
			b.hold(t)
		}
	}
}

func TestCutAnew(t *testing.T) {
	for _, first := range []int{0, 1, 2, 5, math.MaxInt} {
		for _, second := range []int{0, 1, 2, 5} {
			for between := range min(first, 3) + 1 {
				b := newPairing(t, 2)
				b.arm(first)
				for i := range between {
					b.put(t, i%2, long(i), api.OK)
				}
				b.arm(second)
				for i := range second {
					b.put(t, i%2, long(i+10), api.OK)
				}
				b.put(t, 1, "lost", api.ErrDown)
				b.hold(t)
			}
		}
	}
}

func TestCutOfADiskThatIsDown(t *testing.T) {
	for _, n := range []int{-1, 0, 1, 2, math.MaxInt, math.MinInt} {
		b := loadPairing(t, []string{"ab", "cd"})
		b.turn(false)
		b.arm(n)
		b.hold(t)
		b.put(t, 0, "lost", api.ErrDown)
		// On takes the number away.
		b.turn(true)
		for i := range 5 {
			b.put(t, i%2, long(i), api.OK)
		}
		b.hold(t)
	}
}

func TestCutBehindOnAndOff(t *testing.T) {
	for _, n := range []int{0, 1, 3} {
		b := loadPairing(t, []string{"ab", "cd"})
		for range 3 {
			b.turn(false)
			b.turn(true)
			b.arm(n)
			for i := range n {
				b.put(t, i%2, long(i), api.OK)
			}
			b.put(t, 0, "lost", api.ErrDown)
			b.hold(t)
		}
	}
}

func TestOnAndOffTakeTheNumberAway(t *testing.T) {
	for _, n := range []int{0, 1, 3, math.MaxInt} {
		// On of a disk that is up.
		b := newPairing(t, 2)
		b.arm(n)
		b.turn(true)
		for i := range 6 {
			b.put(t, i%2, long(i), api.OK)
		}
		// Off and On.
		b.arm(n)
		b.turn(false)
		b.turn(true)
		for i := range 6 {
			b.put(t, i%2, long(i), api.OK)
		}
		b.hold(t)
	}
}

func TestRefusedWritesTakeNothingOfTheNumber(t *testing.T) {
	for n := range 4 {
		b := newPairing(t, 3)
		b.arm(n)
		refused := func() {
			t.Helper()
			for _, i := range noBlocks(3) {
				b.put(t, i, "x", api.ErrBlock)
				b.put(t, i, long(1025), api.ErrBlock)
			}
			for i := range 3 {
				b.put(t, i, long(1025), api.ErrLong)
			}
			b.hold(t)
			wantDown(t, b.Disk, false)
		}
		for i := range n {
			refused()
			b.put(t, i%3, "x", api.OK)
		}
		refused()
		b.put(t, 1, "lost", api.ErrDown)
		b.hold(t)
	}
}

func TestReadsTakeNothingOfTheNumber(t *testing.T) {
	b := newPairing(t, 2)
	b.arm(1)
	for range 5 {
		b.hold(t)
	}
	b.put(t, 0, "ab", api.OK)
	for range 5 {
		b.hold(t)
	}
	b.put(t, 1, "lost", api.ErrDown)
	b.hold(t)
}

func TestOffOnAndDown(t *testing.T) {
	b := loadPairing(t, []string{"ab", "", "cd"})
	wantDown(t, b.Disk, false)
	for _, on := range []bool{true, false, false, true, true, false, true, false} {
		b.turn(on)
		wantDown(t, b.Disk, !on)
		wantDown(t, b.Disk, !on)
		b.hold(t)
	}
}

// P8.5

func TestReadsAndWritesCountWhatWasOK(t *testing.T) {
	b := newPairing(t, 2)
	b.get(t, 0)
	b.get(t, 0)
	b.put(t, 1, "", api.OK)
	b.put(t, 1, "ab", api.OK)
	b.put(t, 1, "ab", api.OK)
	wantCounts(t, b.Disk, 2, 3)
	b.get(t, 2)
	b.get(t, -1)
	b.put(t, 2, "ab", api.ErrBlock)
	b.put(t, 0, long(1025), api.ErrLong)
	wantCounts(t, b.Disk, 2, 3)
	b.arm(0)
	b.put(t, 0, "ab", api.ErrDown)
	b.put(t, 0, "ab", api.ErrDown)
	b.get(t, 0)
	wantCounts(t, b.Disk, 2, 3)
	// What On, Off, Cut and Image do is no read and no write, and nothing is forgotten.
	b.turn(true)
	b.turn(false)
	b.turn(true)
	b.arm(5)
	b.Image()
	wantCounts(t, b.Disk, 2, 3)
	b.get(t, 1)
	b.put(t, 0, "cd", api.OK)
	wantCounts(t, b.Disk, 3, 4)
}

func TestLoadBeginsToCountAnew(t *testing.T) {
	b := newPairing(t, 2)
	b.put(t, 0, "ab", api.OK)
	b.get(t, 0)
	other := loadPairing(t, texts(b.Image()))
	wantCounts(t, other.Disk, 0, 0)
	other.get(t, 0)
	wantCounts(t, other.Disk, 1, 0)
	wantCounts(t, b.Disk, 1, 1)
}

func TestImageUpAndDown(t *testing.T) {
	list := []string{"ab", "", long(1024), "c"}
	d := wantLoad(t, list)
	for _, turn := range []func(){d.Off, d.Off, d.On, d.On, d.Off} {
		wantImage(t, d, list)
		turn()
		wantImage(t, d, list)
	}
	wantCounts(t, d, 0, 0)
}

func TestLoadOfAnImageIsTheSameDisk(t *testing.T) {
	b := newPairing(t, 4)
	b.put(t, 1, "ab", api.OK)
	b.put(t, 3, long(1024), api.OK)
	b.arm(0)
	b.put(t, 1, "lost", api.ErrDown)
	// The new one is up and not armed, whatever the other one was.
	other := loadPairing(t, texts(b.Image()))
	wantDown(t, other.Disk, false)
	other.hold(t)
	other.put(t, 1, "cd", api.OK)
	other.hold(t)
	b.hold(t)
}

// P8.6

func TestTwoDisksOutOfOneImage(t *testing.T) {
	image := roomyBlocks([]string{"ab", "", long(1024)})
	want := texts(image)
	one, _ := Load(image)
	two, _ := Load(image)
	a, b := pairing{one, &model{texts: slices.Clone(want)}}, pairing{two, &model{texts: slices.Clone(want)}}
	for i := range want {
		a.put(t, i, "changed", api.OK)
		a.hold(t)
		b.hold(t)
	}
	a.arm(0)
	b.put(t, 0, "cd", api.OK)
	a.put(t, 0, "lost", api.ErrDown)
	a.hold(t)
	b.hold(t)
	b.turn(false)
	a.turn(true)
	a.hold(t)
	b.hold(t)
	if !slices.Equal(texts(image), want) {
		t.Errorf("the image is %q, not %q", texts(image), want)
	}
}

func TestTwoNewDisks(t *testing.T) {
	a, b := newPairing(t, 3), newPairing(t, 3)
	a.put(t, 0, "ab", api.OK)
	b.put(t, 0, "cd", api.OK)
	a.turn(false)
	a.hold(t)
	b.hold(t)
}

func TestLoadOfBlocksThatShareMemory(t *testing.T) {
	whole := []byte("abcdef")
	d, _ := Load([][]byte{whole, whole, whole[:3], whole[3:], whole[:0]})
	b := pairing{d, &model{texts: []string{"abcdef", "abcdef", "abc", "def", ""}}}
	b.hold(t)
	for i := range 5 {
		b.put(t, i, "xy", api.OK)
		b.hold(t)
	}
	if string(whole) != "abcdef" {
		t.Errorf("the bytes are %q", whole)
	}
}

func TestOneTextIntoAllBlocks(t *testing.T) {
	b := newPairing(t, 4)
	bytes := roomy([]byte("abc"), '~')
	for i := range 4 {
		if e := b.Write(i, bytes); e != api.OK {
			t.Errorf("Write(%d, %q) is %d", i, bytes, e)
		}
		b.model.write(i, "abc")
	}
	spoil(bytes)
	b.hold(t)
	b.put(t, 2, "x", api.OK)
	b.hold(t)
}

func TestAnswersStay(t *testing.T) {
	b := loadPairing(t, []string{"ab", "cd"})
	read, _ := b.Read(0)
	again, _ := b.Read(0)
	image := b.Image()
	other := b.Image()
	b.model.reads += 2
	// What comes behind an answer doesn't change it.
	b.put(t, 0, "xy", api.OK)
	b.put(t, 1, "", api.OK)
	spoil(again)
	spoilAll(t, other, []string{"ab", "cd"})
	if string(read) != "ab" || !slices.Equal(texts(image), []string{"ab", "cd"}) {
		t.Errorf("answers have become %q and %q", read, image)
	}
	b.hold(t)
	// What was read may be written back, and is no disk's then either.
	b.model.write(1, "ab")
	if e := b.Write(1, read); e != api.OK {
		t.Errorf("Write(1, %q) is %d", read, e)
	}
	spoil(read)
	b.hold(t)
}

// P1 and all of them: calls in every order.

// call is one of the things that may happen to a disk of two blocks, told by its number.
func (b pairing) call(t *testing.T, number int, text string) {
	t.Helper()
	put := func(i int, text string) {
		t.Helper()
		wantWrite(t, b.Disk, i, text, b.model.write(i, text))
	}
	switch number {
	case 0:
		put(0, text)
	case 1:
		put(1, text)
	case 2:
		put(2, text)
	case 3:
		put(0, long(1025))
	case 4:
		b.arm(0)
	case 5:
		b.arm(1)
	case 6:
		b.arm(-1)
	case 7:
		b.turn(false)
	case 8:
		b.turn(true)
	case 9:
		b.get(t, 0)
	}
}

func TestCallsInEveryOrder(t *testing.T) {
	for row := range 100000 {
		b := newPairing(t, 2)
		for rest := row; rest > 0; rest /= 10 {
			b.call(t, rest%10, long(rest%17))
		}
		b.look(t)
		if t.Failed() {
			t.Fatalf("the calls %d, from the last digit on", row)
		}
	}
}

func TestALongRowOfCalls(t *testing.T) {
	b := loadPairing(t, []string{"ab", ""})
	state := uint64(1)
	for range 20000 {
		state = state*6364136223846793005 + 1442695040888963407
		b.call(t, int(state>>33)%10, long(int(state>>43)%1025))
		b.look(t)
		if t.Failed() {
			t.FailNow()
		}
	}
	b.hold(t)
}
