package wire

import (
	"bytes"
	"math"
	"slices"
	"testing"

	"reprise/api"
)

// filler is what stands in the spare room of lists that are handed in.
const filler = 0xa5

// rises has the numbers on both sides of each rise of a number's length, and the ends.
func rises() []uint64 {
	list := []uint64{0, 1}
	for bits := 7; bits < 64; bits += 7 {
		list = append(list, 1<<bits-1, 1<<bits, 1<<bits+1)
	}
	return append(list, 300, 1<<62, 1<<62+1, math.MaxInt64, 1<<63, math.MaxUint64-1, math.MaxUint64)
}

// scattered has numbers of all lengths, always the same ones.
func scattered(count int) []uint64 {
	list := make([]uint64, 0, count)
	state := uint64(1)
	for i := range count {
		state = state*6364136223846793005 + 1442695040888963407
		list = append(list, (state^state>>29)>>uint(i%64))
	}
	return list
}

// repeat is one byte, count times, and others behind.
func repeat(c byte, count int, behind ...byte) []byte {
	return append(bytes.Repeat([]byte{c}, count), behind...)
}

// form is x's number by division, apart from how the package makes it.
func form(x uint64) []byte {
	b := []byte{}
	for ; x/128 > 0; x /= 128 {
		b = append(b, byte(128+x%128))
	}
	return append(b, byte(x))
}

// byteStrings has all strings of at most most bytes, made of the bytes that are given.
func byteStrings(most int, of ...byte) [][]byte {
	all := [][]byte{{}}
	from := 0
	for range most {
		to := len(all)
		for _, head := range all[from:to] {
			for _, c := range of {
				all = append(all, append(slices.Clone(head), c))
			}
		}
		from = to
	}
	return all
}

// roomy is b with spare room behind it that is filled.
func roomy(b []byte) []byte {
	all := append(slices.Clone(b), repeat(filler, 16)...)
	return all[:len(b)]
}

// wantRoomy tells if b, or the spare room behind it, isn't what roomy made of old.
func wantRoomy(t *testing.T, what string, b []byte, old []byte) {
	t.Helper()
	if !bytes.Equal(b, old) || !bytes.Equal(b[len(b):len(b)+16], repeat(filler, 16)) {
		t.Errorf("%s: what was handed in has become %x", what, b[:len(b)+16])
	}
}

// spoil writes over a list and over its spare room.
func spoil[E byte | int](list []E) {
	list = list[:cap(list)]
	for i := range list {
		list[i] = 0x5a
	}
}

func wantBytes(t *testing.T, what string, got []byte, want []byte) {
	t.Helper()
	if !bytes.Equal(got, want) {
		t.Errorf("%s is %x, not %x", what, got, want)
	}
}

func wantTake(t *testing.T, b []byte, x uint64, n int, e api.Errno) {
	t.Helper()
	gotX, gotN, gotE := Take(b)
	if gotX != x || gotN != n || gotE != e {
		t.Errorf("Take(%x) is %d, %d, %d, not %d, %d, %d", b, gotX, gotN, gotE, x, n, e)
	}
}

func wantTakeRun(t *testing.T, b []byte, s []byte, n int, e api.Errno) {
	t.Helper()
	gotS, gotN, gotE := TakeRun(b)
	if !bytes.Equal(gotS, s) || gotN != n || gotE != e {
		t.Errorf("TakeRun(%x) is %x, %d, %d, not %x, %d, %d", b, gotS, gotN, gotE, s, n, e)
	}
}

func wantNums(t *testing.T, list []int, b []byte, e api.Errno) {
	t.Helper()
	gotB, gotE := Nums(list)
	if !bytes.Equal(gotB, b) || gotE != e {
		t.Errorf("Nums(%d) is %x, %d, not %x, %d", list, gotB, gotE, b, e)
	}
}

func wantTakeNums(t *testing.T, b []byte, most int, list []int, n int, e api.Errno) {
	t.Helper()
	gotL, gotN, gotE := TakeNums(b, most)
	if !slices.Equal(gotL, list) || gotN != n || gotE != e {
		t.Errorf("TakeNums(%x, %d) is %d, %d, %d, not %d, %d, %d", b, most, gotL, gotN, gotE, list, n, e)
	}
}

func wantTakeWord(t *testing.T, b []byte, x uint64, e api.Errno) {
	t.Helper()
	gotX, gotE := TakeWord(b)
	if gotX != x || gotE != e {
		t.Errorf("TakeWord(%x) is %x, %d, not %x, %d", b, gotX, gotE, x, e)
	}
}
