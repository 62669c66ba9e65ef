package inflate_test

import (
	"bytes"
	"compress/flate"
	"io"
	"math"
	"math/rand/v2"
	"slices"
	"strconv"
	"strings"
	"testing"

	"inkwell/api"
	"inkwell/bits"
	"inkwell/codes"
	"inkwell/deflate"
	"inkwell/huff"
	"inkwell/inflate"
)

// low answers the lowest bits of a number as digits, the lowest first.
func low(n, x int) string {
	s := ""
	for range n {
		s += strconv.Itoa(x & 1)
		x >>= 1
	}
	return s
}

// high answers the lowest bits of a number as digits, the highest first.
func high(n, x int) string {
	s := ""
	for range n {
		s = strconv.Itoa(x&1) + s
		x >>= 1
	}
	return s
}

// digitsOf answers all bits of bytes as digits.
func digitsOf(b []byte) string {
	s := make([]byte, 8*len(b))
	for i := range s {
		s[i] = '0' + b[i/8]>>(i%8)&1
	}
	return string(s)
}

// pack answers the bytes of such bits, with 0s behind them.
func pack(digits string) []byte {
	b := make([]byte, (len(digits)+7)/8)
	for i, c := range []byte(digits) {
		b[i/8] |= (c - '0') << (i % 8)
	}
	return b
}

// aligned answers digits, and so many of one more that they are whole bytes.
func aligned(digits, by string) string {
	return digits + strings.Repeat(by, (8-len(digits)%8)%8)
}

// drawn answers n drawn bytes, so many of them.
func drawn(rnd *rand.Rand, n, letters int) []byte {
	b := make([]byte, n)
	for i := range b {
		b[i] = byte(rnd.IntN(letters))
	}
	return b
}

// What blocks begin with.
const (
	goesOn  = "0"
	last    = "1"
	stored  = "00"
	fixed   = "10"
	dynamic = "01"
)

// fix answers the code of a symbol that is agreed upon, by RFC 1951's table.
func fix(s int) string {
	switch {
	case s <= 143:
		return high(8, 0b00110000+s)
	case s <= 255:
		return high(9, 0b110010000+s-144)
	case s <= 279:
		return high(7, s-256)
	default:
		return high(8, 0b11000000+s-280)
	}
}

// far answers the code of a distance's symbol that is agreed upon.
func far(s int) string {
	return high(5, s)
}

// fixes answers the codes of a text's letters.
func fixes(text string) string {
	var s strings.Builder
	for _, c := range []byte(text) {
		s.WriteString(fix(int(c)))
	}
	return s.String()
}

// storing answers what was put ahead, and a stored block behind it, with numbers as they are told.
func storing(ahead, place, passed string, n, turned int, b string) string {
	return aligned(ahead+place+stored, passed) + low(16, n) + low(16, turned) + digitsOf([]byte(b))
}

// own answers a dynamic block's beginning, of codes of such lengths, and each symbol's code.
func own(place string, literals, distances map[int]int) (string, func(int) string, func(int) string) {
	a, b := make([]int, 286), make([]int, 30)
	for s, n := range literals {
		a[s] = n
	}
	for s, n := range distances {
		b[s] = n
	}
	var w bits.Writer
	codes.Put(&w, a, b)
	ofA, ofB := huff.Codes(a), huff.Codes(b)
	literal := func(s int) string { return high(a[s], int(ofA[s])) }
	distance := func(s int) string { return high(b[s], int(ofB[s])) }
	return place + dynamic + digitsOf(w.Bytes())[:w.Len()], literal, distance
}

// plain opens blocks by the chapter's words; it panics with the first error.
type plain struct {
	digits string
	at     int
	opened []byte
	most   int
}

// plainOpen answers what Open must answer.
func plainOpen(b []byte, most int) (opened []byte, n int, e api.Errno) {
	defer func() {
		if x := recover(); x != nil {
			opened, n, e = nil, 0, x.(api.Errno)
		}
	}()
	p := &plain{digits: digitsOf(b), most: most}
	for goOn := true; goOn; {
		if p.left() < 3 {
			panic(api.ErrShort)
		}
		goOn = p.number(1) == 0
		switch p.number(2) {
		case 0:
			p.stored()
		case 1:
			p.tokens(plainFixed())
		case 2:
			p.tokens(p.codes())
		case 3:
			panic(api.ErrForm)
		}
	}
	return p.opened, (p.at + 7) / 8, api.OK
}

// left answers how many bits weren't read.
func (p *plain) left() int {
	return len(p.digits) - p.at
}

// number reads n bits.
func (p *plain) number(n int) int {
	if n > p.left() {
		panic(api.ErrShort)
	}
	x := 0
	for i := range n {
		x += int(p.digits[p.at+i]-'0') << i
	}
	p.at += n
	return x
}

// stored opens such a block.
func (p *plain) stored() {
	p.at = (p.at + 7) / 8 * 8
	n, turned := p.number(16), p.number(16)
	if n+turned != 65535 {
		panic(api.ErrForm)
	}
	if len(p.opened)+n > p.most {
		panic(api.ErrLong)
	}
	for range n {
		p.opened = append(p.opened, byte(p.number(8)))
	}
}

// texts answers the symbols of codes, by their digits.
func texts(lengths []int) map[string]int {
	m := map[string]int{}
	for s, x := range huff.Codes(lengths) {
		if lengths[s] > 0 {
			m[high(lengths[s], int(x))] = s
		}
	}
	return m
}

// plainFixed answers the symbols that are agreed upon.
func plainFixed() (map[string]int, map[string]int) {
	literals, distances := map[string]int{}, map[string]int{}
	for s := range 288 {
		literals[fix(s)] = s
	}
	for s := range 32 {
		distances[far(s)] = s
	}
	return literals, distances
}

// codes reads a block's own codes.
func (p *plain) codes() (map[string]int, map[string]int) {
	r := bits.New(pack(p.digits))
	r.Raw(p.at / 8)
	r.Bits(p.at % 8)
	a, b, ok := codes.Get(r)
	if !ok || !huff.Right(a) || !huff.Right(b) && slices.Max(b) > 0 {
		panic(api.ErrForm)
	}
	p.at = r.At()
	return texts(a), texts(b)
}

// symbol reads the symbol whose code comes.
func (p *plain) symbol(codes map[string]int) int {
	for n := 1; n <= min(15, p.left()); n++ {
		if s, ok := codes[p.digits[p.at:p.at+n]]; ok {
			p.at += n
			return s
		}
	}
	if p.left() < 15 {
		panic(api.ErrShort)
	}
	panic(api.ErrForm)
}

// span reads the number that the symbol s tells; steps holds how many symbols there are with no bits, one, and so on.
func (p *plain) span(s, least int, steps []int) int {
	for bits, count := range steps {
		if s < count {
			return least + s<<bits + p.number(bits)
		}
		s -= count
		least += count << bits
	}
	panic(api.ErrForm)
}

// tokens opens them up to the end.
func (p *plain) tokens(literals, distances map[string]int) {
	for {
		s := p.symbol(literals)
		switch {
		case s < 256:
			if len(p.opened)+1 > p.most {
				panic(api.ErrLong)
			}
			p.opened = append(p.opened, byte(s))
		case s == 256:
			return
		default:
			p.match(s, distances)
		}
	}
}

// match opens the match whose length begins with a symbol.
func (p *plain) match(s int, distances map[string]int) {
	if s > 285 {
		panic(api.ErrForm)
	}
	length := 258
	if s < 285 {
		length = p.span(s-257, 3, []int{8, 4, 4, 4, 4, 4})
	}
	if len(distances) == 0 {
		panic(api.ErrForm)
	}
	distance := p.span(p.symbol(distances), 1, []int{4, 2, 2, 2, 2, 2, 2, 2, 2, 2, 2, 2, 2, 2})
	if distance > len(p.opened) {
		panic(api.ErrForm)
	}
	if len(p.opened)+length > p.most {
		panic(api.ErrLong)
	}
	for range length {
		p.opened = append(p.opened, p.opened[len(p.opened)-distance])
	}
}

// check tells a test where Open isn't what the chapter's words are; it answers the error.
func check(t *testing.T, name string, b []byte, most int) api.Errno {
	t.Helper()
	opened, n, e := inflate.Open(b, most)
	wantOpened, wantN, wantE := plainOpen(b, most)
	if e != wantE || n != wantN || !bytes.Equal(opened, wantOpened) {
		t.Fatalf("%s: Open(%.60x, %d), of %d bytes, = %d bytes, %d, %d; want %d bytes, %d, %d", name, b, most, len(b), len(opened), n, e, len(wantOpened), wantN, wantE)
	}
	if e == api.OK {
		checkLibrary(t, name, b, opened, n)
	}
	return e
}

// checkLibrary tells a test where Go's library opens other bytes, or others of the bytes tell them.
func checkLibrary(t *testing.T, name string, b, opened []byte, n int) {
	t.Helper()
	r := bytes.NewReader(b)
	want, err := io.ReadAll(flate.NewReader(r))
	if err != nil || !bytes.Equal(opened, want) || len(b)-r.Len() != n {
		t.Fatalf("%s: Open(%.60x) = %d bytes, %d; Go's library opens %d bytes, %d, %v", name, b, len(opened), n, len(want), len(b)-r.Len(), err)
	}
}

// checkOpens tells a test where Open doesn't open bytes as they were, at the fewest bytes that may be, or opens them at fewer.
func checkOpens(t *testing.T, name string, pressed, b []byte) {
	t.Helper()
	for _, behind := range []string{"", "x", "\xff\xff\xff", "\x00"} {
		for _, most := range []int{len(b), len(b) + 1, math.MaxInt} {
			opened, n, e := inflate.Open(append(slices.Clone(pressed), behind...), most)
			if e != api.OK || n != len(pressed) || !bytes.Equal(opened, b) {
				t.Fatalf("%s: %d bytes, pressed to %d, are opened as %d, %d, %d", name, len(b), len(pressed), len(opened), n, e)
			}
		}
	}
	if len(b) == 0 {
		return
	}
	for _, most := range []int{len(b) - 1, len(b) / 2, 0, -1, math.MinInt} {
		if opened, n, e := inflate.Open(pressed, most); e != api.ErrLong || opened != nil || n != 0 {
			t.Fatalf("%s: %d bytes, at most %d, are opened as %d, %d, %d", name, len(b), most, len(opened), n, e)
		}
	}
}

// checkFront tells a test where the first n bytes of pressed ones are opened.
func checkFront(t *testing.T, name string, pressed []byte, n int) {
	t.Helper()
	opened, k, e := inflate.Open(pressed[:n], math.MaxInt)
	if e != api.ErrShort && e != api.ErrForm || opened != nil || k != 0 {
		t.Fatalf("%s: %d of %d bytes are opened as %d, %d, %d", name, n, len(pressed), len(opened), k, e)
	}
	if e == api.ErrForm && pressed[0]>>1&3 != 2 {
		t.Fatalf("%s: %d of %d bytes aren't told to be too short", name, n, len(pressed))
	}
}

// ways answers what chapter 9 makes of bytes.
func ways(b []byte) map[string][]byte {
	fixed, _ := deflate.Fixed(b)
	dynamic, _ := deflate.Dynamic(b)
	return map[string][]byte{"Stored": deflate.Stored(b), "Fixed": fixed, "Dynamic": dynamic, "Press": deflate.Press(b)}
}

// checkPressed tells a test where what chapter 9 presses isn't opened as it was, or its front is.
func checkPressed(t *testing.T, name string, b []byte) {
	t.Helper()
	for way, pressed := range ways(b) {
		checkOpens(t, name+": "+way, pressed, b)
		step := 1 + len(pressed)/50
		for n := 0; n < len(pressed); n += step {
			checkFront(t, name+": "+way, pressed, n)
		}
		checkFront(t, name+": "+way, pressed, len(pressed)-1)
	}
}

func TestOpen(t *testing.T) {
	for _, c := range []struct {
		b, want string
		n       int
	}{
		{"\x03\x00", "", 2},
		{"\x4b\x04\x00", "a", 3},
		{"\x4b\x84\x03\x00", "aaaaaaaaaa", 4},
		{"\x01\x00\x00\xff\xff", "", 5},
		{"\x01\x02\x00\xfd\xffhi", "hi", 7},
		{"\x00\x01\x00\xfe\xffh\x01\x01\x00\xfe\xffi", "hi", 12},
		{"\x00\x00\x00\xff\xff\x03\x00", "", 7},
	} {
		for _, behind := range []string{"", "\x00", "\xff", "what stands behind"} {
			b, n, e := inflate.Open([]byte(c.b+behind), 100)
			if string(b) != c.want || n != c.n || e != api.OK {
				t.Errorf("Open(%x) = %q, %d, %d; want %q, %d", c.b+behind, b, n, e, c.want, c.n)
			}
		}
		check(t, "an example", []byte(c.b), 100)
	}
}

// TestReadme holds what README.md says.
func TestReadme(t *testing.T) {
	pressed := []byte{75, 132, 3, 0, 'x'}
	for _, c := range []struct {
		b    []byte
		most int
		want string
		n    int
		e    api.Errno
	}{
		{pressed, 10, "aaaaaaaaaa", 4, api.OK},
		{pressed, 9, "", 0, api.ErrLong},
		{pressed[:2], 10, "", 0, api.ErrShort},
		{[]byte{7, 0}, 10, "", 0, api.ErrForm},
	} {
		if b, n, e := inflate.Open(c.b, c.most); string(b) != c.want || n != c.n || e != c.e {
			t.Errorf("Open(%v, %d) = %q, %d, %d; want %q, %d, %d", c.b, c.most, b, n, e, c.want, c.n, c.e)
		}
	}
}

// TestPressedShort goes through all short texts of few letters.
func TestPressedShort(t *testing.T) {
	for i := range 256 {
		checkPressed(t, "a byte", []byte{byte(i)})
	}
	for n := range 9 {
		for x := range 1 << n {
			b := make([]byte, n)
			for i := range b {
				b[i] = 'a' + byte(x>>i&1)
			}
			checkPressed(t, "two letters", b)
		}
	}
}

func TestPressedDrawn(t *testing.T) {
	rnd := rand.New(rand.NewPCG(10, 1))
	for range 100 {
		checkPressed(t, "drawn", drawn(rnd, rnd.IntN(600), 1+rnd.IntN(256)))
	}
	for _, letters := range []int{1, 2, 10, 256} {
		checkPressed(t, "drawn, long", drawn(rnd, 3000+rnd.IntN(3000), letters))
	}
}

// TestPressedLong holds such as are stored in some blocks, and such as come again from the farthest distance.
func TestPressedLong(t *testing.T) {
	long := drawn(rand.New(rand.NewPCG(10, 2)), 65537, 256)
	for _, n := range []int{65535, 65536, 65537} {
		for way, pressed := range ways(long[:n]) {
			if b, k, e := inflate.Open(pressed, n); !bytes.Equal(b, long[:n]) || k != len(pressed) || e != api.OK {
				t.Errorf("%s of %d bytes: %d, %d, %d", way, n, len(b), k, e)
			}
			if b, k, e := inflate.Open(pressed, n-1); b != nil || k != 0 || e != api.ErrLong {
				t.Errorf("%s of %d bytes, at most one fewer: %d, %d, %d", way, n, len(b), k, e)
			}
			checkFront(t, way, pressed, len(pressed)-1)
		}
	}
	again := slices.Concat(long[:32768], long[:400])
	for way, pressed := range ways(again) {
		if b, k, e := inflate.Open(pressed, len(again)); !bytes.Equal(b, again) || k != len(pressed) || e != api.OK {
			t.Errorf("%s of what comes again: %d, %d, %d", way, len(b), k, e)
		}
	}
}

// TestOthers opens what Go's library pressed: at each of its levels, at once and in parts with blocks without bytes between.
func TestOthers(t *testing.T) {
	rnd := rand.New(rand.NewPCG(10, 3))
	for level := flate.HuffmanOnly; level <= flate.BestCompression; level++ {
		for _, b := range [][]byte{
			nil,
			[]byte("a"),
			bytes.Repeat([]byte("she sells sea shells by the sea shore; "), 30),
			drawn(rnd, 3000, 256),
			drawn(rnd, 100000, 5),
			drawn(rnd, 140000, 256),
			make([]byte, 200000),
		} {
			for _, size := range []int{1 + len(b), 1 + len(b)/3, 1 + len(b)/40} {
				var pressed bytes.Buffer
				w, err := flate.NewWriter(&pressed, level)
				if err != nil {
					t.Fatal(err)
				}
				for part := range slices.Chunk(b, size) {
					w.Write(part)
					w.Flush()
				}
				w.Close()
				checkOpens(t, "Go's library", pressed.Bytes(), b)
				checkFront(t, "Go's library", append([]byte{4}, pressed.Bytes()...), 1+rnd.IntN(pressed.Len()))
			}
		}
	}
}

// TestBits holds blocks whose bits were worked out by hand.
func TestBits(t *testing.T) {
	const end = 256
	begin, a, b := own(last, map[int]int{'a': 1, end: 3, 257: 3, 284: 3, 285: 3}, map[int]int{0: 2, 1: 2, 3: 2, 4: 2})
	beginOn, c, d := own(goesOn, map[int]int{'b': 1, end: 2, 258: 2}, map[int]int{3: 1})
	alone, only, _ := own(last, map[int]int{end: 1}, nil)
	few, letter, _ := own(last, map[int]int{'z': 1, end: 1}, nil)
	whole := map[int]int{}
	for s := range 14 {
		whole['a'+s] = s + 1
	}
	whole['z'], whole[end] = 15, 15
	longest, l, _ := own(last, whole, nil)
	for _, x := range []struct {
		name, digits, want string
	}{
		{"fixed, nothing", last + fixed + fix(end), ""},
		{"two fixed blocks", goesOn + fixed + fixes("a") + fix(end) + last + fixed + fixes("b") + fix(end), "ab"},
		{"fixed, all edges of codes", last + fixed + fixes("\x00\x8f\x90\xff") + fix(end), "\x00\x8f\x90\xff"},
		{"a match over the edge of a block", goesOn + fixed + fixes("abc") + fix(end) + last + fixed + fix(257) + far(2) + fix(end), "abcabc"},
		{"a match that goes on in itself", last + fixed + fixes("ab") + fix(259) + far(1) + fix(end), "abababa"},
		{"a length that bits follow", last + fixed + fixes("x") + fix(265) + "1" + far(0) + fix(end), strings.Repeat("x", 13)},
		{"five bits follow", last + fixed + fixes("x") + fix(284) + low(5, 30) + far(0) + fix(end), strings.Repeat("x", 258)},
		{"the greatest length, told by the symbol ahead", last + fixed + fixes("x") + fix(284) + low(5, 31) + far(0) + fix(end), strings.Repeat("x", 259)},
		{"the greatest length", last + fixed + fixes("x") + fix(285) + far(0) + fix(end), strings.Repeat("x", 259)},
		{"a distance that bits follow", last + fixed + fixes("abcdef") + fix(257) + far(4) + "1" + fix(end), "abcdefabc"},
		{"the least of them", last + fixed + fixes("abcdef") + fix(257) + far(4) + "0" + fix(end), "abcdefbcd"},
		{"stored, behind 0s", storing("", last, "0", 3, 65532, "abc"), "abc"},
		{"stored, behind 1s", storing("", last, "1", 3, 65532, "abc"), "abc"},
		{"stored, without bytes", storing("", last, "1", 0, 65535, ""), ""},
		{"stored blocks without bytes ahead", storing(storing("", goesOn, "0", 0, 65535, ""), goesOn, "1", 0, 65535, "") + last + fixed + fixes("a") + fix(end), "a"},
		{"a stored block without bytes behind", storing(goesOn+fixed+fixes("a")+fix(end), last, "1", 0, 65535, ""), "a"},
		{"short stored blocks", storing(storing(storing("", goesOn, "0", 1, 65534, "a"), goesOn, "0", 2, 65533, "bc"), last, "0", 1, 65534, "d"), "abcd"},
		{"stored between fixed ones", storing(goesOn+fixed+fixes("a")+fix(end), goesOn, "1", 2, 65533, "bc") + last + fixed + fix(257) + far(2) + fix(end), "abcabc"},
		{"stored, just at a byte's end", storing(goesOn+fixed+fixes("\x90\x90\x90")+fix(end), last, "1", 1, 65534, "c"), "\x90\x90\x90c"},
		{"dynamic", begin + a('a') + a('a') + a(257) + b(1) + a(end), "aaaaa"},
		{"dynamic, bits follow", begin + a('a') + a(284) + low(5, 31) + b(0) + a(285) + b(4) + "1" + a(end), strings.Repeat("a", 517)},
		{"dynamic, two blocks of other codes", beginOn + c('b') + c('b') + c('b') + c('b') + c(258) + d(3) + c(end) + begin + a('a') + a(257) + b(3) + a(end), strings.Repeat("b", 8) + "a" + "bbb"},
		{"the end alone has a code", alone + only(end), ""},
		{"no distance has a code", few + letter('z') + letter('z') + letter(end), "zz"},
		{"codes of up to fifteen bits", longest + l('a') + l('n') + l('z') + l('b') + l(end), "anzb"},
	} {
		p := pack(x.digits)
		got, n, e := inflate.Open(p, len(x.want))
		if string(got) != x.want || n != len(p) || e != api.OK {
			t.Errorf("%s: Open(%x) = %q, %d, %d; want %q, %d", x.name, p, got, n, e, x.want, len(p))
		}
		check(t, x.name, p, len(x.want))
		checkOpens(t, x.name, p, []byte(x.want))
		for k := range p {
			if e := check(t, x.name, p[:k], len(x.want)); e != api.ErrShort && e != api.ErrForm {
				t.Errorf("%s: %d of %d bytes: %d", x.name, k, len(p), e)
			}
		}
	}
}

// TestErrors holds each thing that is refused, with its nearest neighbours that aren't.
func TestErrors(t *testing.T) {
	const end = 256
	const ok, short, form, long = api.OK, api.ErrShort, api.ErrForm, api.ErrLong
	begin, a, b := own(last, map[int]int{'a': 1, 265: 2, end: 3, 257: 3}, map[int]int{0: 1, 29: 1})
	none, c, _ := own(last, map[int]int{'a': 1, 265: 2, end: 3, 257: 3}, nil)
	one, d, f := own(last, map[int]int{'a': 1, 257: 2, end: 2}, map[int]int{0: 1})
	alone, only, _ := own(last, map[int]int{end: 1}, nil)
	over, _, _ := own(last, map[int]int{'a': 2, end: 1}, nil)
	much, _, _ := own(last, map[int]int{'a': 1, 'b': 1, end: 1}, nil)
	two, _, _ := own(last, map[int]int{end: 2}, nil)
	overFar, _, _ := own(last, map[int]int{'a': 1, end: 1}, map[int]int{0: 1, 1: 2})
	muchFar, _, _ := own(last, map[int]int{'a': 1, end: 1}, map[int]int{0: 1, 1: 1, 2: 1})
	twoFar, _, _ := own(last, map[int]int{'a': 1, end: 1}, map[int]int{7: 2})
	noEnd, _, _ := own(last, map[int]int{'a': 1, 'b': 1}, nil)
	zeros := strings.Repeat("0", 40)
	ab := last + fixed + fixes("ab")
	for _, x := range []struct {
		name, digits string
		most         int
		want         api.Errno
	}{
		{"no bits", "", 9, short},
		{"no bits, and no bytes may be", "", -1, short},
		{"no bits behind a block", goesOn + fixed + fixes("\x90\x90\x90\x90\x90\x90") + fix(end), 9, short},
		{"one bit behind a block", goesOn + fixed + fixes("\x90\x90\x90\x90\x90") + fix(end) + "1", 9, short},
		{"two bits behind a block", goesOn + fixed + fixes("\x90\x90\x90\x90") + fix(end) + "11", 9, short},
		{"the kind 3", last + "11" + zeros, 9, form},
		{"the kind 3, not last", goesOn + "11" + zeros, 9, form},
		{"the kind 3 behind a block", goesOn + fixed + fix(end) + last + "11", 9, form},

		{"stored: no numbers", last + stored, 9, short},
		{"stored: half a number", last + stored + "00000" + low(8, 255), 9, short},
		{"stored: one number", last + stored + "00000" + low(16, 1), 9, short},
		{"stored: one and a half", last + stored + "00000" + low(16, 1) + low(8, 1), 9, short},
		{"stored: one bit isn't unlike", storing("", last, "0", 2, 65532, "hi"), 9, form},
		{"stored: the highest bit isn't", storing("", last, "0", 2, 65533-32768, "hi"), 9, form},
		{"stored: both are one", storing("", last, "0", 2, 2, "hi"), 9, form},
		{"stored: both are 0", storing("", last, "0", 0, 0, ""), 9, form},
		{"stored: not unlike, and too many", storing("", last, "0", 2, 65532, "hi"), 1, form},
		{"stored: not unlike, and too few", storing("", last, "0", 3, 65533, "hi"), 9, form},
		{"stored: as many as may be", storing("", last, "0", 2, 65533, "hi"), 2, ok},
		{"stored: one more than may be", storing("", last, "0", 2, 65533, "hi"), 1, long},
		{"stored: one more with those ahead", storing(goesOn+fixed+fixes("a")+fix(end), last, "0", 2, 65533, "hi"), 2, long},
		{"stored: as many with those ahead", storing(goesOn+fixed+fixes("a")+fix(end), last, "0", 2, 65533, "hi"), 3, ok},
		{"stored: more than may be, and bytes end", storing("", last, "0", 3, 65532, "hi"), 2, long},
		{"stored: bytes end", storing("", last, "0", 3, 65532, "hi"), 3, short},
		{"stored: no bytes are there", storing("", last, "0", 1, 65534, ""), 3, short},
		{"stored: most bytes, none are there", storing("", last, "0", 65535, 0, ""), 65535, short},
		{"stored: most bytes, one fewer may be", storing("", last, "0", 65535, 0, ""), 65534, long},
		{"stored: nothing, and nothing may be", storing("", last, "0", 0, 65535, ""), 0, ok},
		{"stored: nothing is more than less", storing("", last, "0", 0, 65535, ""), -1, long},

		{"dynamic: bits end at once", last + dynamic, 9, form},
		{"dynamic: bits end in it", begin[:40], 9, form},
		{"dynamic: the end has no code", noEnd + zeros, 9, form},
		{"dynamic: codes of symbols leave something over", over + zeros, 9, form},
		{"dynamic: codes of symbols have too much", much + zeros, 9, form},
		{"dynamic: one symbol alone, of two bits", two + zeros, 9, form},
		{"dynamic: codes of distances leave something over", overFar + zeros, 9, form},
		{"dynamic: codes of distances have too much", muchFar + zeros, 9, form},
		{"dynamic: one distance alone, of two bits", twoFar + zeros, 9, form},
		{"dynamic: one distance alone, of one bit", one + d('a') + d(257) + f(0) + d(end), 9, ok},
		{"dynamic: another bit than that", one + d('a') + d(257) + "1" + zeros, 9, form},
		{"dynamic: one symbol alone, another bit", alone + "1" + zeros, 9, form},
		{"dynamic: one symbol alone", alone + only(end), 9, ok},
		{"dynamic: no distances, none needed", none + c('a') + c(end), 9, ok},
		{"dynamic: a length, no distances", none + c('a') + c(257) + zeros, 9, form},
		{"dynamic: a length, no distances, behind what follows", none + c('a') + c(265) + "1" + zeros, 9, form},
		{"dynamic: a length, no distances, and more than may be", none + c('a') + c(257) + zeros, 1, form},
		{"dynamic: the farthest distance", begin + a('a') + a(257) + b(29) + zeros, 9, form},

		{"a symbol above 285", ab + fix(286) + zeros, 9, form},
		{"another one", ab + fix(287) + zeros, 9, form},
		{"a symbol above 285, more than may be", ab + fix(286) + zeros, 2, form},
		{"a distance above 29", ab + fix(257) + far(30) + zeros, 9, form},
		{"another one", ab + fix(257) + far(31) + zeros, 9, form},
		{"a distance above 29, more than may be", ab + fix(257) + far(30) + zeros, 2, form},
		{"as far as there are bytes", ab + fix(257) + far(1) + fix(end), 9, ok},
		{"one farther", ab + fix(257) + far(2) + zeros, 9, form},
		{"one farther, more than may be", ab + fix(257) + far(2) + zeros, 2, form},
		{"a match ahead of all", last + fixed + fix(257) + far(0) + zeros, 9, form},
		{"far too far", ab + fix(257) + far(29) + strings.Repeat("1", 13) + zeros, 9, form},
		{"as many bytes as may be", ab + fix(257) + far(1) + fix(end), 5, ok},
		{"a match with one more", ab + fix(257) + far(1) + fix(end), 4, long},
		{"a match with many more", ab + fix(285) + far(1) + fix(end), 259, long},
		{"a literal more", ab + fix(end), 1, long},
		{"a literal, and none may be", ab + fix(end), 0, long},
		{"a literal, and fewer may be", ab + fix(end), -1, long},
		{"more than may be, ahead of the kind 3", goesOn + fixed + fixes("ab") + fix(end) + last + "11", 1, long},
		{"more than may be, behind a symbol above 285", ab + fix(286) + fixes("abcdefghi"), 3, form},
		{"the end alone, where fewer may be", last + fixed + fix(end), -1, ok},
	} {
		p := pack(x.digits)
		if b, n, e := inflate.Open(p, x.most); e != x.want || e != ok && (b != nil || n != 0) {
			t.Errorf("%s: Open(%x, %d) = %q, %d, %d; want %d", x.name, p, x.most, b, n, e, x.want)
		}
		check(t, x.name, p, x.most)
	}
}

// TestLeftBits holds where bits that tell no symbol are too few to tell one, and where they aren't.
func TestLeftBits(t *testing.T) {
	met := map[int]bool{}
	try := func(digits string, left int) {
		t.Helper()
		b := pack(digits + strings.Repeat("1", left))
		if len(digits)+left != 8*len(b) {
			return
		}
		want := api.ErrForm
		if left < 15 {
			want = api.ErrShort
		}
		if _, _, e := inflate.Open(b, 99); e != want {
			t.Errorf("%d bits are left: %d; want %d", left, e, want)
		}
		check(t, "bits are left", b, 99)
		met[left] = true
	}
	for many := range 8 { // so that the bits that are left may be any number
		begin, a, _ := own(last, map[int]int{'a': 1, 257: 2, 256: 2}, map[int]int{0: 1})
		begin += strings.Repeat(a('a'), 1+many)
		alone, _, _ := own(last, map[int]int{256: 1}, nil)
		alone = goesOn + fixed + strings.Repeat(fix(200), many) + fix(256) + alone
		for left := range 32 {
			try(begin+a(257), left)
			try(alone, left)
		}
	}
	for _, left := range []int{0, 1, 13, 14, 15, 16, 31} {
		if !met[left] {
			t.Errorf("no bits were tried of which %d are left", left)
		}
	}
}

// TestBitsEnd cuts fixed blocks at each bit: what follows a symbol isn't there, or not all of it.
func TestBitsEnd(t *testing.T) {
	for many := range 8 {
		begin := last + fixed + strings.Repeat(fix(200), 6+many) // each shifts what comes by a bit
		for _, match := range []string{fix(257) + far(2), fix(284) + low(5, 31) + far(4) + "1", fix(269) + "01" + far(5) + "0"} {
			digits := begin + match
			for n := range len(digits) {
				if n%8 != 0 {
					continue
				}
				if _, _, e := inflate.Open(pack(digits[:n]), 999); e != api.ErrShort {
					t.Errorf("%d of %d bits: %d; want %d", n, len(digits), e, api.ErrShort)
				}
				check(t, "bits end", pack(digits[:n]), 999)
			}
		}
	}
}

// TestLengthWithoutDistances: it is looked at behind what follows the length's symbol, which may end.
func TestLengthWithoutDistances(t *testing.T) {
	var got [2]int
	for many := range 8 {
		begin, a, _ := own(last, map[int]int{'a': 1, 284: 2, 256: 2}, nil)
		digits := begin + strings.Repeat(a('a'), 1+many) + a(284)
		for follows := range 9 {
			if (len(digits)+follows)%8 != 0 {
				continue
			}
			want := api.ErrForm
			if follows < 5 {
				want = api.ErrShort
			}
			if _, _, e := inflate.Open(pack(digits+strings.Repeat("1", follows)), 999); e != want {
				t.Errorf("%d bits follow a length: %d; want %d", follows, e, want)
			}
			got[min(follows/5, 1)]++
		}
	}
	if got[0] == 0 || got[1] == 0 {
		t.Errorf("not both were tried: %v", got)
	}
}

// TestDistances goes through each distance's symbol, its edges, and just as many bytes ahead as it needs.
func TestDistances(t *testing.T) {
	all := drawn(rand.New(rand.NewPCG(10, 4)), 32768, 256)
	least := 1
	for s := range 30 {
		bits := max(0, s/2-1)
		for _, extra := range []int{0, 1<<bits - 1} {
			d := least + extra
			match := last + fixed + fix(258) + far(s) + low(bits, extra) + fix(256)
			for _, n := range []int{d - 1, d, 32768} {
				ahead := storing("", goesOn, "0", n, 65535-n, string(all[:n]))
				b, _, e := inflate.Open(pack(ahead+match), n+4)
				if n < d {
					if e != api.ErrForm {
						t.Errorf("a match of %d from %d, behind %d: %d", 4, d, n, e)
					}
					continue
				}
				want := slices.Clone(all[:n])
				for range 4 {
					want = append(want, want[len(want)-d])
				}
				if e != api.OK || !bytes.Equal(b, want) {
					t.Errorf("a match of %d from %d, behind %d: %d bytes, %d", 4, d, n, len(b), e)
				}
			}
		}
		least += 1 << bits
	}
	if least != 32769 {
		t.Errorf("the farthest distance that was tried is %d", least-1)
	}
}

// TestLengths goes through each length.
func TestLengths(t *testing.T) {
	least := 3
	for s := 257; s < 285; s++ {
		bits := max(0, (s-257)/4-1)
		for extra := range 1 << bits {
			n := least + extra
			b := pack(last + fixed + fixes("xy") + fix(s) + low(bits, extra) + far(1) + fix(256))
			got, _, e := inflate.Open(b, 999)
			if want := strings.Repeat("xy", 200)[:2+n]; string(got) != want || e != api.OK {
				t.Errorf("a match of %d: %d bytes, %d", n, len(got), e)
			}
		}
		least += 1 << bits
	}
	if least != 259 {
		t.Errorf("the greatest length that was tried is %d", least-1)
	}
}

// TestDrawn holds drawn bytes, of which most are none that were pressed.
func TestDrawn(t *testing.T) {
	rnd := rand.New(rand.NewPCG(10, 5))
	met := map[api.Errno]int{}
	for range 30000 {
		b := drawn(rnd, rnd.IntN(40), 256)
		if len(b) > 0 && rnd.IntN(2) == 0 {
			b[0] = b[0]&^6 | 2 // fixed
		}
		met[check(t, "drawn", b, rnd.IntN(60))]++
	}
	for _, e := range []api.Errno{api.OK, api.ErrShort, api.ErrForm, api.ErrLong} {
		if met[e] == 0 {
			t.Errorf("%d was never told: %v", e, met)
		}
	}
}

// TestChanged holds pressed bytes of which some bits are turned, some bytes are cut off, or fewer may be opened.
func TestChanged(t *testing.T) {
	rnd := rand.New(rand.NewPCG(10, 6))
	met := map[api.Errno]int{}
	for range 4000 {
		b := drawn(rnd, rnd.IntN(200), 1+rnd.IntN(20))
		for _, pressed := range ways(b) {
			for range rnd.IntN(3) {
				pressed[rnd.IntN(len(pressed))] ^= 1 << rnd.IntN(8)
			}
			pressed = pressed[:len(pressed)-min(rnd.IntN(20)/16, len(pressed))]
			met[check(t, "changed", pressed, len(b)-5+rnd.IntN(20))]++
		}
	}
	for _, e := range []api.Errno{api.OK, api.ErrShort, api.ErrForm, api.ErrLong} {
		if met[e] == 0 {
			t.Errorf("%d was never told: %v", e, met)
		}
	}
}

// TestDrawnBlocks holds drawn blocks of all kinds, one behind the other.
func TestDrawnBlocks(t *testing.T) {
	rnd := rand.New(rand.NewPCG(10, 7))
	wide := map[int]int{256: 1} // the end, and all bytes
	for s := range 256 {
		wide[s] = 9
	}
	for range 400 {
		digits, want := "", ""
		for blocks := rnd.IntN(6); blocks >= 0; blocks-- {
			place := goesOn
			if blocks == 0 {
				place = last
			}
			text := string(drawn(rnd, rnd.IntN(30), 256))
			switch rnd.IntN(3) {
			case 0:
				digits = storing(digits, place, strconv.Itoa(rnd.IntN(2)), len(text), 65535-len(text), text)
			case 1:
				digits += place + fixed + fixes(text) + fix(256)
			case 2:
				begin, a, _ := own(place, wide, nil)
				digits += begin
				for _, c := range []byte(text) {
					digits += a(int(c))
				}
				digits += a(256)
			}
			want += text
		}
		p := pack(digits)
		if b, n, e := inflate.Open(append(p, "behind"...), len(want)); string(b) != want || n != len(p) || e != api.OK {
			t.Fatalf("Open(%x) = %x, %d, %d; want %x, %d", p, b, n, e, want, len(p))
		}
		check(t, "drawn blocks", p, len(want))
	}
}

// TestManyBlocks: blocks of a few bits may come by the hundred thousand.
func TestManyBlocks(t *testing.T) {
	empty := strings.Repeat(goesOn+fixed+fix(256), 800000)
	b, n, e := inflate.Open(pack(empty+last+fixed+fixes("a")+fix(256)), 1)
	if string(b) != "a" || n != 1000000+3 || e != api.OK {
		t.Errorf("many fixed blocks: %d bytes, %d, %d", len(b), n, e)
	}
	begin, a, _ := own(goesOn, map[int]int{256: 1}, nil)
	end, c, _ := own(last, map[int]int{256: 1}, nil)
	if b, _, e := inflate.Open(pack(strings.Repeat(begin+a(256), 20000)+end+c(256)), 0); len(b) != 0 || e != api.OK {
		t.Errorf("many dynamic blocks: %d bytes, %d", len(b), e)
	}
	row := bytes.Repeat([]byte{0, 0, 0, 255, 255}, 200000)
	if _, n, e := inflate.Open(append(row, 1, 0, 0, 255, 255), 0); n != len(row)+5 || e != api.OK {
		t.Errorf("many stored blocks: %d, %d", n, e)
	}
	if _, _, e := inflate.Open(row, 0); e != api.ErrShort {
		t.Errorf("many stored blocks, none of them the last one: %d", e)
	}
}

// TestManyBytes: a few bytes may tell very many, and are opened up to what may be.
func TestManyBytes(t *testing.T) {
	b := pack(last + fixed + fixes("a") + strings.Repeat(fix(285)+far(0), 20000) + fix(256))
	const all = 1 + 258*20000
	if a, n, e := inflate.Open(b, all); len(a) != all || n != len(b) || e != api.OK {
		t.Errorf("%d bytes, %d, %d; want %d", len(a), n, e, all)
	}
	if a, n, e := inflate.Open(b, all-1); a != nil || n != 0 || e != api.ErrLong {
		t.Errorf("%d bytes, %d, %d; at most one fewer may be", len(a), n, e)
	}
}

// TestWhatIsHandedIn isn't changed, spare room included, and isn't kept.
func TestWhatIsHandedIn(t *testing.T) {
	b := []byte("what is handed in stays as it is, as it is, as it is")
	for way, pressed := range ways(b) {
		room := append(slices.Clone(pressed), bytes.Repeat([]byte{0x5a}, 300)...)
		kept := slices.Clone(room)
		opened, _, _ := inflate.Open(room[:len(pressed)], 999)
		inflate.Open(room[:len(pressed)-1], 999)
		inflate.Open(room, 9)
		if !bytes.Equal(room, kept) {
			t.Errorf("%s: what was handed in is changed", way)
		}
		clear(room)
		if !bytes.Equal(opened, b) {
			t.Errorf("%s: what was handed in is kept", way)
		}
	}
}

// TestWhatIsHandedOut is new memory, spare room included.
func TestWhatIsHandedOut(t *testing.T) {
	b := []byte("what is handed out is new, is new, is new")
	for way, pressed := range ways(b) {
		kept := slices.Clone(pressed)
		first, _, _ := inflate.Open(pressed, 999)
		second, _, _ := inflate.Open(pressed, 999)
		first = first[:cap(first)]
		for i := range first {
			first[i] ^= 0x5a
		}
		if !bytes.Equal(second, b) || !bytes.Equal(pressed, kept) {
			t.Errorf("%s: what is handed out shares memory", way)
		}
		if again, _, e := inflate.Open(pressed, 999); !bytes.Equal(again, b) || e != api.OK {
			t.Errorf("%s: opened again it is %q, %d", way, again, e)
		}
	}
}

// TestNoBytes: a list without elements may be nil or not.
func TestNoBytes(t *testing.T) {
	for _, b := range [][]byte{nil, {}} {
		if opened, n, e := inflate.Open(b, 9); opened != nil || n != 0 || e != api.ErrShort {
			t.Errorf("Open of no bytes = %q, %d, %d", opened, n, e)
		}
	}
}
