package bits_test

import (
	"bytes"
	"math"
	"math/rand/v2"
	"slices"
	"testing"

	"inkwell/bits"
)

// written answers the bytes and the number of bits that calls of a new writer put.
func written(calls func(w *bits.Writer)) ([]byte, int) {
	var w bits.Writer
	calls(&w)
	return w.Bytes(), w.Len()
}

func TestWriter(t *testing.T) {
	const all = math.MaxUint64
	for _, c := range []struct {
		name  string
		calls func(w *bits.Writer)
		want  string
		n     int
	}{
		{"nothing", func(w *bits.Writer) {}, "", 0},
		{"the chapter's example", func(w *bits.Writer) { w.Put(3, 5); w.Code(2, 2) }, "\x0d", 5},

		{"Put of no numbers", func(w *bits.Writer) { w.Put(7) }, "", 0},
		{"Put of 0 bits", func(w *bits.Writer) { w.Put(0, all, all) }, "", 0},
		{"Put of fewer than 0 bits", func(w *bits.Writer) { w.Put(-1, all); w.Put(math.MinInt, all) }, "", 0},
		{"Put of one bit", func(w *bits.Writer) { w.Put(1, 1) }, "\x01", 1},
		{"Put of one bit each", func(w *bits.Writer) { w.Put(1, 1, 0, 1, 1) }, "\x0d", 4},
		{"Put of the lowest bits alone", func(w *bits.Writer) { w.Put(2, all, 0xfc) }, "\x03", 4},
		{"Put across bytes", func(w *bits.Writer) { w.Put(3, 1, 2, 4, 7) }, "\x11\x0f", 12},
		{"Put of 63 bits", func(w *bits.Writer) { w.Put(63, 1<<62|1<<63); w.Put(1, 0) }, "\x00\x00\x00\x00\x00\x00\x00\x40", 64},
		{"Put of 64 bits", func(w *bits.Writer) { w.Put(64, 0x8877665544332211) }, "\x11\x22\x33\x44\x55\x66\x77\x88", 64},
		{"Put of 64 bits within a byte", func(w *bits.Writer) { w.Put(4, 0); w.Put(64, 0x8877665544332211) }, "\x10\x21\x32\x43\x54\x65\x76\x87\x08", 68},
		{"Put of 65 bits", func(w *bits.Writer) { w.Put(65, 1<<63, 1) }, "\x00\x00\x00\x00\x00\x00\x00\x80\x01\x00\x00\x00\x00\x00\x00\x00", 128},
		{"Put of far more bits", func(w *bits.Writer) { w.Put(math.MaxInt, 2) }, "\x02\x00\x00\x00\x00\x00\x00\x00", 64},

		{"Code of 0 bits", func(w *bits.Writer) { w.Code(0, all) }, "", 0},
		{"Code of fewer than 0 bits", func(w *bits.Writer) { w.Code(-1, all); w.Code(math.MinInt, all) }, "", 0},
		{"Code of one bit", func(w *bits.Writer) { w.Code(1, 2); w.Code(1, 3) }, "\x02", 2},
		{"Code, the highest first", func(w *bits.Writer) { w.Code(4, 1); w.Code(4, 2) }, "\x48", 8},
		{"Code of the lowest bits alone", func(w *bits.Writer) { w.Code(2, 0xfd) }, "\x02", 2},
		{"Code across bytes", func(w *bits.Writer) { w.Code(15, 1) }, "\x00\x40", 15},
		{"Code of 64 bits", func(w *bits.Writer) { w.Code(64, 1<<63|2) }, "\x01\x00\x00\x00\x00\x00\x00\x40", 64},
		{"Code of 65 bits", func(w *bits.Writer) { w.Code(65, 1<<63|2) }, "\x01\x00\x00\x00\x00\x00\x00\x40", 64},
		{"Code of far more bits", func(w *bits.Writer) { w.Code(math.MaxInt, 1) }, "\x00\x00\x00\x00\x00\x00\x00\x80", 64},

		{"Align of nothing", func(w *bits.Writer) { w.Align() }, "", 0},
		{"Align behind one bit", func(w *bits.Writer) { w.Put(1, 1); w.Align() }, "\x01", 8},
		{"Align behind seven bits", func(w *bits.Writer) { w.Put(7, 127); w.Align(); w.Put(1, 1) }, "\x7f\x01", 9},
		{"Align on a whole byte", func(w *bits.Writer) { w.Put(8, 255); w.Align(); w.Align(); w.Put(1, 1) }, "\xff\x01", 9},
		{"Align within the second byte", func(w *bits.Writer) { w.Put(9, 511); w.Align(); w.Put(2, 3) }, "\xff\x01\x03", 18},

		{"Raw of nothing", func(w *bits.Writer) { w.Raw() }, "", 0},
		{"Raw at the beginning", func(w *bits.Writer) { w.Raw(1, 2, 255) }, "\x01\x02\xff", 24},
		{"Raw on a whole byte", func(w *bits.Writer) { w.Put(8, 7); w.Raw(9) }, "\x07\x09", 16},
		{"Raw within a byte", func(w *bits.Writer) { w.Put(1, 1); w.Raw(255); w.Put(1, 1) }, "\x01\xff\x01", 17},
		{"Raw of nothing within a byte", func(w *bits.Writer) { w.Put(3, 7); w.Raw(); w.Put(1, 1) }, "\x07\x01", 9},
	} {
		if b, n := written(c.calls); string(b) != c.want || n != c.n {
			t.Errorf("%s: %x, %d; want %x, %d", c.name, b, n, c.want, c.n)
		}
	}
}

func TestLenStepByStep(t *testing.T) {
	var w bits.Writer
	for _, c := range []struct {
		call func()
		want int
	}{
		{func() {}, 0},
		{func() { w.Put(3, 0, 0) }, 6},
		{func() { w.Code(5, 0) }, 11},
		{func() { w.Align() }, 16},
		{func() { w.Align() }, 16},
		{func() { w.Put(1, 0) }, 17},
		{func() { w.Raw(0, 0) }, 40},
		{func() { w.Put(-3, 0) }, 40},
		{func() { w.Code(99, 0) }, 104},
	} {
		if c.call(); w.Len() != c.want || len(w.Bytes()) != (c.want+7)/8 {
			t.Errorf("Len = %d, of %d bytes; want %d", w.Len(), len(w.Bytes()), c.want)
		}
	}
}

// filled answers the list, its spare room filled with a byte.
func filled(b []byte, x byte) []byte {
	for i := range b[:cap(b)] {
		b[:cap(b)][i] = x
	}
	return b
}

func TestWriterSharesNothing(t *testing.T) {
	var w bits.Writer
	room := append(make([]byte, 0, 8), 1, 2, 9, 9)
	w.Raw(room[:2]...)
	w.Raw(3)
	w.Put(1, 1)
	if string(room) != "\x01\x02\x09\x09" {
		t.Errorf("what was handed in became %x", room)
	}
	filled(room, 77)
	first := w.Bytes()
	filled(first, 88)
	if b := w.Bytes(); string(b) != "\x01\x02\x03\x01" {
		t.Errorf("Bytes = %x behind writing on what was handed in and out", b)
	}
	second := w.Bytes()
	w.Put(7, 127)
	w.Raw(4)
	if string(second) != "\x01\x02\x03\x01" {
		t.Errorf("an earlier answer became %x", second)
	}
	filled(second, 99)
	if b := w.Bytes(); string(b) != "\x01\x02\x03\xff\x04" {
		t.Errorf("Bytes = %x", b)
	}
}

func TestPutLeavesNumbers(t *testing.T) {
	numbers := []uint64{1, 2, 3, 4}
	var w bits.Writer
	w.Put(2, numbers[:2]...)
	if !slices.Equal(numbers, []uint64{1, 2, 3, 4}) {
		t.Errorf("what was handed in became %v", numbers)
	}
}

// stands tells a test that a reader isn't where it should be.
func stands(t *testing.T, r *bits.Reader, at, left int) {
	t.Helper()
	if r.At() != at || r.Left() != left {
		t.Errorf("At, Left = %d, %d; want %d, %d", r.At(), r.Left(), at, left)
	}
}

// reads tells a test that the next bits aren't what they should be.
func reads(t *testing.T, r *bits.Reader, n int, want uint64, ok bool) {
	t.Helper()
	if x, is := r.Bits(n); x != want || is != ok {
		t.Errorf("Bits(%d) = %x, %v; want %x, %v", n, x, is, want, ok)
	}
}

// takes tells a test that the next bytes aren't what they should be.
func takes(t *testing.T, r *bits.Reader, n int, want string, ok bool) {
	t.Helper()
	if b, is := r.Raw(n); string(b) != want || is != ok {
		t.Errorf("Raw(%d) = %x, %v; want %x, %v", n, b, is, want, ok)
	}
}

func TestReaderOfNothing(t *testing.T) {
	for _, b := range [][]byte{nil, {}} {
		r := bits.New(b)
		stands(t, r, 0, 0)
		reads(t, r, 0, 0, true)
		reads(t, r, 1, 0, false)
		takes(t, r, 0, "", true)
		takes(t, r, 1, "", false)
		if !r.Align() {
			t.Errorf("Align of nothing is false")
		}
		stands(t, r, 0, 0)
	}
}

func TestBits(t *testing.T) {
	r := bits.New([]byte{0x0d, 0xf0, 1, 2, 3, 4, 5, 6, 7, 8})
	stands(t, r, 0, 80)
	reads(t, r, 3, 5, true)
	reads(t, r, 0, 0, true)
	reads(t, r, 1, 1, true)
	stands(t, r, 4, 76)
	reads(t, r, 12, 0xf00, true)
	stands(t, r, 16, 64)
	reads(t, r, 65, 0, false)
	reads(t, r, math.MaxInt, 0, false)
	reads(t, r, -1, 0, false)
	reads(t, r, math.MinInt, 0, false)
	stands(t, r, 16, 64)
	reads(t, r, 64, 0x0807060504030201, true)
	stands(t, r, 80, 0)
	reads(t, r, 0, 0, true)
	reads(t, r, 1, 0, false)
	stands(t, r, 80, 0)
}

func TestBitsAboveMostWhileMoreAreLeft(t *testing.T) {
	r := bits.New(bytes.Repeat([]byte{255}, 20))
	reads(t, r, 65, 0, false)
	reads(t, r, 128, 0, false)
	stands(t, r, 0, 160)
	reads(t, r, 63, math.MaxUint64>>1, true)
	reads(t, r, 64, math.MaxUint64, true)
	stands(t, r, 127, 33)
}

func TestBitsThatAreTooFew(t *testing.T) {
	r := bits.New([]byte{0xff, 0xff})
	reads(t, r, 17, 0, false)
	reads(t, r, 5, 31, true)
	reads(t, r, 12, 0, false)
	stands(t, r, 5, 11)
	reads(t, r, 11, 2047, true)
	reads(t, r, 1, 0, false)
	stands(t, r, 16, 0)
}

func TestReaderAlign(t *testing.T) {
	for _, c := range []struct {
		name string
		b    []byte
		n    int
		zero bool
		at   int
	}{
		{"at the beginning", []byte{255, 255}, 0, true, 0},
		{"over 0s", []byte{1, 255}, 1, true, 8},
		{"over a 1 at once", []byte{2, 0}, 1, false, 8},
		{"over a 1 at last", []byte{128, 0}, 1, false, 8},
		{"over one 0", []byte{127, 255}, 7, true, 8},
		{"over one 1", []byte{128, 0}, 7, false, 8},
		{"on a whole byte", []byte{255, 255}, 8, true, 8},
		{"in the last byte", []byte{255, 1}, 9, true, 16},
		{"in the last byte, over a 1", []byte{0, 4}, 9, false, 16},
		{"at the end", []byte{255, 255}, 16, true, 16},
	} {
		r := bits.New(c.b)
		r.Bits(c.n)
		if zero := r.Align(); zero != c.zero {
			t.Errorf("Align %s = %v", c.name, zero)
		}
		stands(t, r, c.at, 8*len(c.b)-c.at)
		if !r.Align() {
			t.Errorf("Align again, %s, is false", c.name)
		}
		stands(t, r, c.at, 8*len(c.b)-c.at)
	}
}

func TestReaderRaw(t *testing.T) {
	r := bits.New([]byte("abcdefg"))
	takes(t, r, 2, "ab", true)
	stands(t, r, 16, 40)
	reads(t, r, 1, 1, true)
	takes(t, r, 1, "d", true)
	stands(t, r, 32, 24)
	takes(t, r, 0, "", true)
	stands(t, r, 32, 24)
	reads(t, r, 1, 1, true)
	takes(t, r, 0, "", true)
	stands(t, r, 40, 16)
	takes(t, r, 2, "fg", true)
	takes(t, r, 0, "", true)
	takes(t, r, 1, "", false)
	stands(t, r, 56, 0)
}

func TestReaderRawRefused(t *testing.T) {
	// From MaxInt/8 on eight times n wraps round.
	for _, n := range []int{-1, -8, math.MinInt, math.MinInt / 8, 3, 4, 24, math.MaxInt / 8, math.MaxInt/8 + 1, math.MaxInt/4 + 1, math.MaxInt} {
		r := bits.New([]byte("abc"))
		reads(t, r, 1, 1, true)
		takes(t, r, n, "", false)
		stands(t, r, 8, 16)
		takes(t, r, n, "", false)
		stands(t, r, 8, 16)
		takes(t, r, 2, "bc", true)
		stands(t, r, 24, 0)
	}
}

func TestReaderRawRefusedOnWholeByte(t *testing.T) {
	r := bits.New([]byte("abc"))
	takes(t, r, 4, "", false)
	takes(t, r, -1, "", false)
	stands(t, r, 0, 24)
	takes(t, r, 3, "abc", true)
}

func TestReaderSharesNothing(t *testing.T) {
	room := append(make([]byte, 0, 8), "abcd!!"...)
	r := bits.New(room[:4])
	filled(room, 0)
	first, _ := r.Raw(2)
	second, _ := r.Raw(1)
	if string(first) != "ab" || string(second) != "c" {
		t.Errorf("Raw = %q, %q behind writing on what was handed in", first, second)
	}
	filled(first, 77)
	if string(second) != "c" {
		t.Errorf("an answer became %q by writing on another one", second)
	}
	filled(second, 88)
	takes(t, r, 1, "d", true)
}

func TestReaderLeavesBytes(t *testing.T) {
	room := append(make([]byte, 0, 8), "abcd!!"...)
	r := bits.New(room[:4])
	r.Bits(3)
	r.Align()
	r.Raw(2)
	r.Raw(9)
	if string(room) != "abcd!!" {
		t.Errorf("what was handed in became %q", room)
	}
}

func TestReadersAreApart(t *testing.T) {
	b := []byte{1, 2}
	r, q := bits.New(b), bits.New(b)
	reads(t, r, 8, 1, true)
	stands(t, q, 0, 16)
	reads(t, q, 16, 0x0201, true)
	stands(t, r, 8, 8)
}

// step is one thing that is put, and read again.
type step struct {
	kind, n int
	numbers []uint64
	b       []byte
}

// someSteps answers steps that follow from a seed alone.
func someSteps(seed uint64) []step {
	rnd := rand.New(rand.NewPCG(seed, 1))
	l := make([]step, rnd.IntN(40))
	for i := range l {
		s := step{kind: rnd.IntN(4), n: rnd.IntN(65)}
		for range 1 + rnd.IntN(3) {
			s.numbers = append(s.numbers, rnd.Uint64())
			s.b = append(s.b, byte(rnd.Uint64()))
		}
		l[i] = s
	}
	return l
}

func (s step) put(w *bits.Writer) {
	switch s.kind {
	case 0:
		w.Put(s.n, s.numbers...)
	case 1:
		w.Code(s.n, s.numbers[0])
	case 2:
		w.Align()
	default:
		w.Raw(s.b...)
	}
}

// lowest answers the number that the lowest n bits of x tell.
func lowest(n int, x uint64) uint64 {
	return x & (1<<n - 1)
}

func (s step) read(t *testing.T, r *bits.Reader) {
	t.Helper()
	switch s.kind {
	case 0:
		for _, x := range s.numbers {
			reads(t, r, s.n, lowest(s.n, x), true)
		}
	case 1:
		for i := s.n - 1; i >= 0; i-- {
			reads(t, r, 1, s.numbers[0]>>i&1, true)
		}
	case 2:
		if !r.Align() {
			t.Errorf("a bit that Align passed was put as 1")
		}
	default:
		takes(t, r, len(s.b), string(s.b), true)
	}
}

func TestWhatIsPutIsRead(t *testing.T) {
	for seed := range uint64(500) {
		l := someSteps(seed)
		var w bits.Writer
		var ends []int
		for _, s := range l {
			s.put(&w)
			ends = append(ends, w.Len())
		}
		b := w.Bytes()
		if len(b) != (w.Len()+7)/8 {
			t.Fatalf("seed %d: %d bytes of %d bits", seed, len(b), w.Len())
		}
		r := bits.New(b)
		for i, s := range l {
			s.read(t, r)
			stands(t, r, ends[i], 8*len(b)-ends[i])
		}
		if !r.Align() {
			t.Errorf("seed %d: a bit that wasn't put is 1", seed)
		}
		stands(t, r, 8*len(b), 0)
	}
}

func TestEachWidthIsRead(t *testing.T) {
	const x = 0xfedcba9876543210
	for n := range 65 {
		for ahead := range 9 {
			b, _ := written(func(w *bits.Writer) { w.Put(ahead, 0); w.Put(n, x, ^uint64(x)); w.Put(1, 1) })
			r := bits.New(b)
			reads(t, r, ahead, 0, true)
			reads(t, r, n, lowest(n, x), true)
			reads(t, r, n, lowest(n, ^uint64(x)), true)
			reads(t, r, 1, 1, true)
		}
	}
}
