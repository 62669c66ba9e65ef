package deflate_test

import (
	"bytes"
	"compress/flate"
	"io"
	"math/rand/v2"
	"slices"
	"strconv"
	"strings"
	"testing"

	"inkwell/api"
	"inkwell/bits"
	"inkwell/codes"
	"inkwell/deflate"
	"inkwell/huff"
	"inkwell/lz"
	"inkwell/syms"
)

// low answers the lowest bits of a number as digits, the lowest first.
func low(n, x int) string {
	s := ""
	for range n {
		s += strconv.Itoa(x & 1)
		x >>= 1
	}
	return s
}

// high answers the lowest bits of a number as digits, the highest first.
func high(n, x int) string {
	s := ""
	for range n {
		s = strconv.Itoa(x&1) + s
		x >>= 1
	}
	return s
}

// digitsOf answers all bits of bytes as digits.
func digitsOf(b []byte) string {
	s := make([]byte, 8*len(b))
	for i := range s {
		s[i] = '0' + b[i/8]>>(i%8)&1
	}
	return string(s)
}

// row answers n bytes from one on, m of them, without many matches.
func row(n, from, k, m int) []byte {
	b := make([]byte, n)
	for i := range b {
		b[i] = byte(from + (i*i*k+i/5)%m)
	}
	return b
}

// drawn answers n drawn bytes, so many of them.
func drawn(rnd *rand.Rand, n, letters int) []byte {
	b := make([]byte, n)
	for i := range b {
		b[i] = byte(rnd.IntN(letters))
	}
	return b
}

// plainStored goes by the chapter's words.
func plainStored(b []byte) []byte {
	var l []byte
	for len(b) > 65535 {
		l = append(l, 0, 255, 255, 0, 0)
		l = append(l, b[:65535]...)
		b = b[65535:]
	}
	few, many := byte(len(b)%256), byte(len(b)/256)
	return append(append(l, 1, few, many, 255-few, 255-many), b...)
}

// plainSymbol answers the last symbol whose least number isn't above n, and what follows as digits; steps holds how many symbols there are with no bits, one, and so on.
func plainSymbol(n, least int, steps []int) (symbol int, follows string) {
	for bits, count := range steps {
		for range count {
			if n < least+1<<bits {
				return symbol, low(bits, n-least)
			}
			least += 1 << bits
			symbol++
		}
	}
	return symbol, ""
}

// plainLength answers the symbol of a length, and what follows.
func plainLength(n int) (int, string) {
	if n == 258 {
		return 285, ""
	}
	s, follows := plainSymbol(n, 3, []int{8, 4, 4, 4, 4, 4})
	return 257 + s, follows
}

// plainDistance answers the symbol of a distance, and what follows.
func plainDistance(n int) (int, string) {
	return plainSymbol(n, 1, []int{4, 2, 2, 2, 2, 2, 2, 2, 2, 2, 2, 2, 2, 2})
}

// plainTokens answers tokens and the end as digits, by what tells the codes of symbols.
func plainTokens(tokens []api.Token, literal, distance func(s int) string) string {
	var s strings.Builder
	for _, t := range tokens {
		if t.Length == 0 {
			s.WriteString(literal(int(t.Byte)))
			continue
		}
		x, follows := plainLength(t.Length)
		s.WriteString(literal(x) + follows)
		x, follows = plainDistance(t.Distance)
		s.WriteString(distance(x) + follows)
	}
	s.WriteString(literal(256))
	return s.String()
}

// plainFixed goes by the chapter's words, and by RFC 1951's table of codes.
func plainFixed(b []byte) string {
	literal := func(s int) string {
		switch {
		case s <= 143:
			return high(8, 0b00110000+s)
		case s <= 255:
			return high(9, 0b110010000+s-144)
		case s <= 279:
			return high(7, s-256)
		default:
			return high(8, 0b11000000+s-280)
		}
	}
	distance := func(s int) string { return high(5, s) }
	return "1" + "10" + plainTokens(lz.Press(b), literal, distance)
}

// plainDynamic goes by the chapter's words.
func plainDynamic(b []byte) string {
	tokens := lz.Press(b)
	ofLiterals, ofDistances := syms.Weights(tokens...)
	literals, distances := huff.Lengths(15, ofLiterals...), huff.Lengths(15, ofDistances...)
	var w bits.Writer
	codes.Put(&w, literals, distances)
	a, c := huff.Codes(literals), huff.Codes(distances)
	literal := func(s int) string { return high(literals[s], int(a[s])) }
	distance := func(s int) string { return high(distances[s], int(c[s])) }
	return "1" + "01" + digitsOf(w.Bytes())[:w.Len()] + plainTokens(tokens, literal, distance)
}

// checkDigits tells a test where bytes aren't just such bits, with 0s behind them.
func checkDigits(t *testing.T, name string, b []byte, n int, want string) {
	t.Helper()
	if n != len(want) {
		t.Fatalf("%s: %d bits; want %d", name, n, len(want))
	}
	if len(b) != (n+7)/8 {
		t.Fatalf("%s: %d bytes of %d bits", name, len(b), n)
	}
	if got := digitsOf(b); got != want+strings.Repeat("0", 8*len(b)-n) {
		for i := range n {
			if got[i] != want[i] {
				t.Fatalf("%s: the bit %d is %c, and so on: %.80s; want %.80s", name, i, got[i], got[i:], want[i:])
			}
		}
		t.Fatalf("%s: the bits behind the last one are %s", name, got[n:])
	}
}

// checkOpened tells a test where Go's library doesn't open all the bytes as they were.
func checkOpened(t *testing.T, name string, pressed, b []byte) {
	t.Helper()
	r := bytes.NewReader(pressed)
	opened, err := io.ReadAll(flate.NewReader(r))
	if err != nil || !bytes.Equal(opened, b) {
		t.Fatalf("%s: %d bytes are opened as %d, %v", name, len(b), len(opened), err)
	}
	if r.Len() > 0 {
		t.Fatalf("%s: %d of %d bytes stand behind the last block", name, r.Len(), len(pressed))
	}
}

// check tells a test where some way to put bytes isn't the chapter's.
func check(t *testing.T, name string, b []byte) {
	t.Helper()
	stored := deflate.Stored(b)
	if !bytes.Equal(stored, plainStored(b)) {
		t.Fatalf("%s: Stored of %d bytes puts other bytes: %.20x", name, len(b), stored)
	}
	fixed, bitsOfFixed := deflate.Fixed(b)
	checkDigits(t, name+": Fixed", fixed, bitsOfFixed, plainFixed(b))
	dynamic, bitsOfDynamic := deflate.Dynamic(b)
	checkDigits(t, name+": Dynamic", dynamic, bitsOfDynamic, plainDynamic(b))
	checkOpened(t, name+": Stored", stored, b)
	checkOpened(t, name+": Fixed", fixed, b)
	checkOpened(t, name+": Dynamic", dynamic, b)

	want := dynamic
	if bitsOfFixed <= bitsOfDynamic {
		want = fixed
	}
	if least := min(bitsOfFixed, bitsOfDynamic); 8*len(stored) <= least {
		want = stored
	}
	pressed := deflate.Press(b)
	if !bytes.Equal(pressed, want) {
		t.Fatalf("%s: Press of %d bytes tells %.20x; want %.20x, of %d, %d, %d bits", name, len(b), pressed, want, 8*len(stored), bitsOfFixed, bitsOfDynamic)
	}
	if most := len(b) + 5*max(1, (len(b)+65534)/65535); len(pressed) > most {
		t.Fatalf("%s: Press of %d bytes has %d", name, len(b), len(pressed))
	}
}

func TestStored(t *testing.T) {
	for _, c := range []struct{ b, want string }{
		{"", "\x01\x00\x00\xff\xff"},
		{"a", "\x01\x01\x00\xfe\xffa"},
		{"hi", "\x01\x02\x00\xfd\xffhi"},
		{"\x00", "\x01\x01\x00\xfe\xff\x00"},
	} {
		if s := deflate.Stored([]byte(c.b)); string(s) != c.want {
			t.Errorf("Stored(%q) = %x; want %x", c.b, s, c.want)
		}
	}
	long := drawn(rand.New(rand.NewPCG(9, 1)), 200000, 256)
	for _, n := range []int{0, 1, 255, 256, 257, 65534, 65535, 65536, 65537, 65540, 131069, 131070, 131071, 131072, 196605, 196606, 200000} {
		s := deflate.Stored(long[:n])
		if !bytes.Equal(s, plainStored(long[:n])) {
			t.Errorf("Stored of %d bytes: other bytes", n)
		}
		checkOpened(t, "Stored", s, long[:n])
	}
}

// TestStoredBlocks: as many as are just whole make one block, and none behind it.
func TestStoredBlocks(t *testing.T) {
	b := bytes.Repeat([]byte{7}, 65536)
	if s := deflate.Stored(b[:65535]); len(s) != 65540 || string(s[:5]) != "\x01\xff\xff\x00\x00" {
		t.Errorf("Stored of 65535 bytes: %d, %x", len(s), s[:5])
	}
	s := deflate.Stored(b)
	if len(s) != 65546 || string(s[:5]) != "\x00\xff\xff\x00\x00" || string(s[65540:]) != "\x01\x01\x00\xfe\xff\x07" {
		t.Errorf("Stored of 65536 bytes: %d, %x, %x", len(s), s[:5], s[65540:])
	}
}

// TestFixedBits holds bits that were worked out by hand.
func TestFixedBits(t *testing.T) {
	const end = "0000000"
	for _, c := range []struct {
		name, b, want string
	}{
		{"nothing", "", ""},
		{"a letter", "a", "10010001"},
		{"the first byte", "\x00", "00110000"},
		{"the last byte of eight bits", "\x8f", "10111111"},
		{"the first byte of nine bits", "\x90", "110010000"},
		{"the last byte", "\xff", "111111111"},
		{"the shortest match", "aaaa", "10010001" + "0000001" + "00000"},
		{"nine of them", "aaaaaaaaaa", "10010001" + "0000111" + "00000"},
		{"a length that a bit follows", strings.Repeat("a", 13), "10010001" + "0001001" + "1" + "00000"},
		{"the last length of seven bits", strings.Repeat("a", 115), "10010001" + "0010111" + "1111" + "00000"},
		{"the first length of eight bits", strings.Repeat("a", 116), "10010001" + "11000000" + "0000" + "00000"},
		{"a length less than the greatest", strings.Repeat("a", 258), "10010001" + "11000100" + "01111" + "00000"},
		{"the greatest length", strings.Repeat("a", 259), "10010001" + "11000101" + "00000"},
		{"a distance that a bit follows", "abcdefabc", "10010001" + "10010010" + "10010011" + "10010100" + "10010101" + "10010110" + "0000001" + "00100" + "1"},
	} {
		b, n := deflate.Fixed([]byte(c.b))
		checkDigits(t, c.name, b, n, "1"+"10"+c.want+end)
	}
}

// TestDynamicBits holds bits that were worked out by hand.
func TestDynamicBits(t *testing.T) {
	// Of both texts 0 and 1 have two bits as items, 18 has one: 0 is 10, 1 is 11, 18 is 0.
	begin := "1" + "01" + "00000" + "00000" + "0111" + // 257, 1, and 18 lengths of items, up to that of 1
		"000" + "000" + "100" + "010" + strings.Repeat("000", 13) + "010" // 16 17 18 0, 8 .. 14, 1
	// 138 0s, 118 0s, 1 (the end), 0 (no distance). Weights: 0 and 1 once, 18 twice.
	b, n := deflate.Dynamic(nil)
	checkDigits(t, "nothing", b, n, begin+"0"+"1111111"+"0"+"1101011"+"11"+"10"+"0")
	// 97 0s, 1 (a letter), 138 0s, 20 0s, 1 (the end), 0 (no distance). Weights: 0 once, 1 twice, 18 three times.
	b, n = deflate.Dynamic([]byte("a"))
	checkDigits(t, "a letter", b, n, begin+"0"+"0110101"+"11"+"0"+"1111111"+"0"+"1001000"+"11"+"10"+"0"+"1")
}

func TestPress(t *testing.T) {
	for _, c := range []struct{ b, want string }{
		{"", "\x03\x00"},
		{"a", "\x4b\x04\x00"},
		{"aaaaaaaaaa", "\x4b\x84\x03\x00"},
		{"\xff\xfe", "\xfb\xff\x0f\x00"}, // 28 bits, 56 stored
	} {
		if p := deflate.Press([]byte(c.b)); string(p) != c.want {
			t.Errorf("Press(%q) = %x; want %x", c.b, p, c.want)
		}
	}
}

// TestPressChooses holds which way has the fewest bits, and of like ones the first.
func TestPressChooses(t *testing.T) {
	rnd := rand.New(rand.NewPCG(9, 2))
	all := make([]byte, 256)
	for i := range all {
		all[i] = byte(i)
	}
	const stored, fixed, dynamic = 0, 1, 2
	for _, c := range []struct {
		name  string
		b     []byte
		least []int // the ways that have the fewest bits
	}{
		{"nothing", nil, []int{fixed}},
		{"all bytes", all, []int{stored}},
		{"many letters", []byte(strings.Repeat("histories of changes, ", 40)), []int{fixed}},
		{"many of few letters", drawn(rnd, 2000, 3), []int{dynamic}},
		{"many of all letters", drawn(rnd, 70000, 256), []int{stored}},
		{"0s", make([]byte, 65536), []int{dynamic}},
		{"29 bytes of nine bits", row(29, 144, 1, 32), []int{fixed}},
		{"30 bytes of nine bits", row(30, 144, 1, 32), []int{stored, fixed}},
		{"31 bytes of nine bits", row(31, 144, 1, 32), []int{stored}},
		{"stored and dynamic are one", row(31, 144, 9, 32), []int{stored, dynamic}},
		{"fixed and dynamic are one", row(16, 248, 1, 8), []int{fixed, dynamic}},
		{"all are one", row(30, 152, 30, 32), []int{stored, fixed, dynamic}},
	} {
		a := deflate.Stored(c.b)
		b, bitsOfB := deflate.Fixed(c.b)
		d, bitsOfD := deflate.Dynamic(c.b)
		ways, sizes := [][]byte{a, b, d}, []int{8 * len(a), bitsOfB, bitsOfD}
		var least []int
		for i, n := range sizes {
			if n == slices.Min(sizes) {
				least = append(least, i)
			}
		}
		if !slices.Equal(least, c.least) {
			t.Errorf("%s: of %d bits the least are %v; want %v", c.name, sizes, least, c.least)
		}
		if p := deflate.Press(c.b); !bytes.Equal(p, ways[c.least[0]]) {
			t.Errorf("%s: Press tells %d bytes, not those of the way %d", c.name, len(p), c.least[0])
		}
		check(t, c.name, c.b)
	}
}

// TestShortTexts goes through all of them, of few letters.
func TestShortTexts(t *testing.T) {
	for i := range 256 {
		check(t, "a byte", []byte{byte(i)})
	}
	for n := range 9 {
		for x := range 1 << n {
			b := make([]byte, n)
			for i := range b {
				b[i] = 'a' + byte(x>>i&1)
			}
			check(t, "two letters", b)
		}
	}
}

func TestDrawnTexts(t *testing.T) {
	rnd := rand.New(rand.NewPCG(9, 3))
	for range 1000 {
		check(t, "drawn", drawn(rnd, rnd.IntN(300), 1+rnd.IntN(256)))
	}
	for _, letters := range []int{1, 2, 3, 10, 100, 256} {
		for range 5 {
			check(t, "drawn, long", drawn(rnd, rnd.IntN(20000), letters))
		}
	}
}

// TestLongTexts holds such as are stored in some blocks.
func TestLongTexts(t *testing.T) {
	rnd := rand.New(rand.NewPCG(9, 4))
	long := drawn(rnd, 131072, 256)
	for _, n := range []int{65534, 65535, 65536, 131070, 131071, 131072} {
		check(t, "all letters", long[:n])
		check(t, "one letter", make([]byte, n))
		check(t, "the same, again and again", bytes.Repeat(long[:1000], n/1000))
	}
}

// TestMatches goes through all lengths, and through distances about each symbol's least one.
func TestMatches(t *testing.T) {
	base := drawn(rand.New(rand.NewPCG(9, 5)), 33100, 256)
	var lengths []byte
	for n := lz.Least; n <= lz.Most; n++ {
		lengths = append(lengths, base[60*n:61*n]...)
		lengths = append(lengths, ^base[61*n]) // it goes on otherwise
	}
	check(t, "all lengths", slices.Concat(base[:61*lz.Most+1], lengths))
	seen := map[int]bool{}
	for least := 1; least <= lz.Back; least *= 2 {
		for _, d := range []int{least - 1, least, least + 1, least + least/2 - 1, least + least/2, least + least/2 + 1} {
			if d < lz.Least || d > lz.Back {
				continue
			}
			b := slices.Concat(base[:d], base[:3], []byte{^base[3]})
			tokens := lz.Press(b)
			for _, x := range tokens {
				seen[x.Distance] = true
			}
			check(t, "a distance", b)
		}
	}
	for _, d := range []int{3, 4, 5, 6, 7, 8, 9, 12, 13, 16383, 16384, 16385, 24576, 24577, 32767, 32768} {
		if !seen[d] {
			t.Errorf("no match of the distance %d was tried", d)
		}
	}
}

// plainLengths answers how many bits the codes of symbols have, if there may be any number of them.
func plainLengths(weights []int) []int {
	lengths := make([]int, len(weights))
	type node struct {
		weight  int
		symbols []int
	}
	var nodes []node
	for s, x := range weights {
		if x > 0 {
			nodes = append(nodes, node{x, []int{s}})
		}
	}
	for len(nodes) > 1 {
		slices.SortStableFunc(nodes, func(a, b node) int { return a.weight - b.weight })
		joined := node{nodes[0].weight + nodes[1].weight, slices.Concat(nodes[0].symbols, nodes[1].symbols)}
		for _, s := range joined.symbols {
			lengths[s]++
		}
		nodes = append(nodes[2:], joined)
	}
	return lengths
}

// withRare answers drawn letters, with so many rarer and rarer ones between them.
func withRare(rnd *rand.Rand, rare int) []byte {
	b := drawn(rnd, 30000, 200)
	for i, n := range steep(rare) {
		for range n {
			b = slices.Insert(b, rnd.IntN(len(b)), byte(200+i))
		}
	}
	return b
}

// withMatches answers bytes with matches of three from rarer and rarer distances, and with no others.
func withMatches(rnd *rand.Rand, rare int) []byte {
	var b []byte
	seen := map[string]bool{}
	fresh := func(more ...byte) bool { // whether no three bytes, up to these ones, were seen
		l := slices.Concat(b[max(0, len(b)-2):], more)
		for i := range max(0, len(l)-2) {
			if seen[string(l[i:i+3])] {
				return false
			}
		}
		return true
	}
	add := func(more ...byte) {
		for _, x := range more {
			b = append(b, x)
			seen[string(b[max(0, len(b)-3):])] = true
		}
	}
	distances := []int{3, 4, 5, 7, 9, 13, 17, 25, 33, 49, 65, 97, 129, 193, 257, 385, 513, 769}
	for i, n := range steep(rare) {
		d := distances[rare-1-i]
		for range n {
			for count := 0; count < d || !fresh(b[len(b)-d], b[len(b)-d+1]); {
				if x := byte(rnd.IntN(256)); fresh(x) {
					add(x)
					count++
				}
			}
			add(slices.Clone(b[len(b)-d : len(b)-d+3])...)
		}
	}
	return b
}

// steep answers weights of which each is more than all that are two or more ahead of it.
func steep(n int) []int {
	l := []int{1, 2}
	for len(l) < n {
		l = append(l, l[len(l)-1]+l[len(l)-2])
	}
	return l
}

// TestSteepWeights: some symbols are so rare that their codes have just fifteen bits, or would have more.
func TestSteepWeights(t *testing.T) {
	rnd := rand.New(rand.NewPCG(9, 6))
	literals, distances := map[int]int{}, map[int]int{}
	for rare := 6; rare <= 18; rare++ {
		for _, b := range [][]byte{withRare(rnd, min(rare, 10)), withMatches(rnd, rare)} {
			ofLiterals, ofDistances := syms.Weights(lz.Press(b)...)
			literals[slices.Max(plainLengths(ofLiterals))]++
			distances[slices.Max(plainLengths(ofDistances))]++
			check(t, "steep weights", b)
		}
	}
	for _, n := range []int{15, 16} {
		if literals[n] == 0 || distances[n] == 0 {
			t.Errorf("no codes would have up to %d bits: %v, %v", n, literals, distances)
		}
	}
}

// TestToldByBytesAlone: what a list's memory is, and what was pressed ahead, counts for nothing.
func TestToldByBytesAlone(t *testing.T) {
	rnd := rand.New(rand.NewPCG(9, 7))
	for range 200 {
		b := drawn(rnd, rnd.IntN(2000), 1+rnd.IntN(256))
		stored, pressed := deflate.Stored(b), deflate.Press(b)
		fixed, n := deflate.Fixed(b)
		dynamic, m := deflate.Dynamic(b)
		deflate.Press(drawn(rnd, 1000, 200))
		other := append(make([]byte, 0, len(b)+rnd.IntN(3000)), b...)
		fixedAgain, nAgain := deflate.Fixed(other)
		dynamicAgain, mAgain := deflate.Dynamic(other)
		if !bytes.Equal(deflate.Stored(other), stored) || !bytes.Equal(deflate.Press(other), pressed) || !bytes.Equal(fixedAgain, fixed) || !bytes.Equal(dynamicAgain, dynamic) || n != nAgain || m != mAgain {
			t.Fatalf("%d bytes are told in two ways", len(b))
		}
	}
}

// ways answers what each call makes of bytes.
func ways(b []byte) [][]byte {
	fixed, _ := deflate.Fixed(b)
	dynamic, _ := deflate.Dynamic(b)
	return [][]byte{deflate.Stored(b), fixed, dynamic, deflate.Press(b)}
}

// TestWhatIsHandedIn isn't changed, spare room included, and isn't kept.
func TestWhatIsHandedIn(t *testing.T) {
	room := drawn(rand.New(rand.NewPCG(9, 8)), 70000, 256)
	kept := slices.Clone(room)
	for _, n := range []int{0, 1, 300, 65535, 65536} {
		pressed := ways(room[:n])
		if !bytes.Equal(room, kept) {
			t.Fatalf("%d bytes handed in are changed", n)
		}
		again := ways(room[:n])
		clear(room)
		for i := range pressed {
			if !bytes.Equal(pressed[i], again[i]) {
				t.Errorf("the way %d shares memory with the %d bytes that were handed in", i, n)
			}
			checkOpened(t, "what was handed in is written on", pressed[i], kept[:n])
		}
		copy(room, kept)
	}
}

// TestWhatIsHandedOut is new memory.
func TestWhatIsHandedOut(t *testing.T) {
	for _, b := range [][]byte{nil, []byte("a"), row(31, 144, 1, 32), drawn(rand.New(rand.NewPCG(9, 9)), 3000, 4)} {
		kept := slices.Clone(b)
		first, second := ways(b), ways(b)
		for _, l := range first {
			l = l[:cap(l)]
			for i := range l {
				l[i] ^= 0x5a
			}
		}
		for i, l := range ways(b) {
			if !bytes.Equal(l, second[i]) || !bytes.Equal(b, kept) {
				t.Errorf("the way %d of %d bytes shares memory", i, len(b))
			}
		}
	}
}

// TestNoBytes: a list without elements may be nil or not.
func TestNoBytes(t *testing.T) {
	for i, l := range ways([]byte{}) {
		if !bytes.Equal(l, ways(nil)[i]) {
			t.Errorf("the way %d of no bytes is %x; of nil %x", i, l, ways(nil)[i])
		}
	}
}
