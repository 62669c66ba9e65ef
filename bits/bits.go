// Package bits is layer 1: see shared/doc/01-bits.md.
package bits

const (
	perByte   = 8  // bits of a byte
	perNumber = 64 // bits of a number
)

// lacking answers how many bits a number of bits lacks to be whole bytes.
func lacking(n int) int {
	return (perByte - n%perByte) % perByte
}

// Writer puts bits together. The zero one has put nothing.
type Writer struct {
	bytes []byte // bits that aren't put yet are 0, so that Align need not write any
	count int    // bits put or passed
}

// Put puts the lowest n bits of each number, the lowest first.
func (w *Writer) Put(n int, numbers ...uint64) {
	n = within(n)
	for _, x := range numbers {
		for i := range n {
			w.bit(x >> i)
		}
	}
}

// Code puts the lowest n bits of a number, the highest of them first.
func (w *Writer) Code(n int, x uint64) {
	n = within(n)
	for i := range n {
		w.bit(x >> (n - 1 - i))
	}
}

// Align goes on with a new byte, if some bits of the last one are put.
func (w *Writer) Align() {
	w.count += lacking(w.count)
}

// Raw puts bytes, as they are, behind an Align.
func (w *Writer) Raw(b ...byte) {
	w.Align()
	w.bytes = append(w.bytes, b...)
	w.count += perByte * len(b)
}

// Len answers how many bits were put, those that Align passed too.
func (w *Writer) Len() int {
	return w.count
}

// Bytes answers all bytes; bits that weren't put are 0.
func (w *Writer) Bytes() []byte {
	return append([]byte(nil), w.bytes...)
}

// bit puts the lowest bit of a number.
func (w *Writer) bit(x uint64) {
	if lacking(w.count) == 0 {
		w.bytes = append(w.bytes, 0)
	}
	w.bytes[w.count/perByte] |= byte(x&1) << (w.count % perByte)
	w.count++
}

// within answers the nearest number of bits that a number can have.
func within(n int) int {
	return min(max(n, 0), perNumber)
}

// Reader reads bits.
type Reader struct {
	bytes []byte
	at    int // bits read or passed
}

// New answers a reader that stands at the beginning.
func New(b []byte) *Reader {
	// A copy: whoever hands bytes in may write on them while they are read.
	return &Reader{bytes: append([]byte(nil), b...)}
}

// At answers how many bits were read, those that Align passed too.
func (r *Reader) At() int {
	return r.at
}

// Left answers how many bits are left.
func (r *Reader) Left() int {
	return perByte*len(r.bytes) - r.at
}

// Bits reads a number of n bits, the lowest first.
func (r *Reader) Bits(n int) (uint64, bool) {
	if n < 0 || n > perNumber || n > r.Left() {
		return 0, false
	}
	var x uint64
	for i := range n {
		x |= r.bit() << i
	}
	return x, true
}

// Align goes on to the next byte; it tells whether all bits that it passed are 0.
func (r *Reader) Align() bool {
	passed, _ := r.Bits(lacking(r.at)) // never refused: bytes are whole
	return passed == 0
}

// Raw reads n bytes, behind an Align.
func (r *Reader) Raw(n int) ([]byte, bool) {
	r.Align()
	if n < 0 || n > r.Left()/perByte { // not 8*n > Left: that could wrap round
		return nil, false
	}
	from := r.at / perByte
	r.at += perByte * n
	return append([]byte(nil), r.bytes[from:from+n]...), true
}

// bit reads the next bit, of which it is known that there is one.
func (r *Reader) bit() uint64 {
	x := r.bytes[r.at/perByte] >> (r.at % perByte) & 1
	r.at++
	return uint64(x)
}
