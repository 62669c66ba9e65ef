package huff_test

import (
	"math"
	"math/big"
	"math/rand/v2"
	"slices"
	"strconv"
	"strings"
	"testing"

	"inkwell/bits"
	"inkwell/huff"
)

// group is a node of the chapter, with all symbols that are within it.
type group struct {
	weight  int
	symbols []int
}

// plainLengths answers the lengths by the chapter's words, and how often weights were halved.
func plainLengths(most int, weights []int) ([]int, int) {
	w := slices.Clone(weights)
	for halved := 0; ; halved++ {
		lengths := plainJoins(w)
		if len(w) == 0 || slices.Max(lengths) <= most {
			return lengths, halved
		}
		for i, x := range w {
			w[i] = (x + 1) / 2
		}
	}
}

// plainJoins joins the two least nodes, of which the list holds the one that was made first ahead.
func plainJoins(weights []int) []int {
	lengths := make([]int, len(weights))
	var l []group
	for s, x := range weights {
		if x > 0 {
			l = append(l, group{x, []int{s}})
		}
	}
	if len(l) == 1 {
		lengths[l[0].symbols[0]] = 1
	}
	least := func() group {
		k := 0
		for i, g := range l {
			if g.weight < l[k].weight {
				k = i
			}
		}
		g := l[k]
		l = slices.Delete(l, k, k+1)
		return g
	}
	for len(l) > 1 {
		a, b := least(), least()
		both := group{a.weight + b.weight, slices.Concat(a.symbols, b.symbols)}
		for _, s := range both.symbols {
			lengths[s]++
		}
		l = append(l, both)
	}
	return lengths
}

// plainRight answers what the chapter says of lengths, its sum told exactly.
func plainRight(lengths []int) bool {
	sum := new(big.Rat)
	var coded []int
	for _, n := range lengths {
		if n < 0 || n > 15 {
			return false
		}
		if n > 0 {
			coded = append(coded, n)
			sum.Add(sum, big.NewRat(1, 1<<n))
		}
	}
	return sum.Cmp(big.NewRat(1, 1)) == 0 || slices.Equal(coded, []int{1})
}

// plainCodes answers each symbol's code as a text of digits, by the chapter's words; an empty one, if it has none.
func plainCodes(lengths []int) []string {
	codes := make([]string, len(lengths))
	ahead := ""
	for n := 1; n <= 15; n++ {
		for s, m := range lengths {
			if m != n {
				continue
			}
			if ahead == "" {
				ahead = strings.Repeat("0", n)
			} else {
				x, _ := strconv.ParseInt(ahead, 2, 64)
				digits := strconv.FormatInt(x+1, 2)
				digits = strings.Repeat("0", len(ahead)-len(digits)) + digits
				ahead = digits + strings.Repeat("0", n-len(digits))
			}
			codes[s] = ahead
		}
	}
	return codes
}

// steep answers n weights of which each is the sum of the two ahead of it, up to the greatest, so that codes become as long as they can.
func steep(n int) []int {
	l := []int{1, 1}
	for len(l) < n {
		l = append(l, min(l[len(l)-1]+l[len(l)-2], 1<<30))
	}
	return l[:n]
}

// same answers a list of one number.
func same(n, x int) []int {
	return slices.Repeat([]int{x}, n)
}

func TestLengths(t *testing.T) {
	for _, c := range []struct {
		name    string
		most    int
		weights []int
		want    []int
	}{
		{"the chapter's example", 15, []int{1, 1, 2}, []int{2, 2, 1}},
		{"no symbols", 15, nil, nil},
		{"no symbols, one bit", 1, []int{}, nil},
		{"symbols of no weight", 15, []int{0, 0, 0}, []int{0, 0, 0}},
		{"one symbol", 15, []int{1}, []int{1}},
		{"one symbol, one bit", 1, []int{1 << 30}, []int{1}},
		{"one symbol among others", 7, []int{0, 0, 9, 0}, []int{0, 0, 1, 0}},
		{"two symbols", 15, []int{1, 1 << 30}, []int{1, 1}},
		{"two symbols, one bit", 1, []int{0, 7, 0, 3, 0}, []int{0, 1, 0, 1, 0}},
		{"three of one weight: what was joined is behind the third", 15, []int{1, 1, 1}, []int{2, 2, 1}},
		{"three of one weight, and some of none", 15, []int{0, 4, 0, 4, 4, 0}, []int{0, 2, 0, 2, 1, 0}},
		{"what was joined, as heavy as a symbol, is behind it", 15, []int{2, 1, 1, 2}, []int{2, 2, 2, 2}},
		{"it may be heavier than the next ones", 15, []int{1, 1, 2, 2}, []int{2, 2, 2, 2}},
		{"or lighter", 15, []int{1, 1, 3, 3}, []int{3, 3, 2, 1}},
		{"of two that were joined the one made first", 15, []int{1, 1, 1, 1, 2}, []int{3, 3, 2, 2, 2}},
		{"five of one weight", 15, []int{3, 3, 3, 3, 3}, []int{3, 3, 2, 2, 2}},
		{"six of one weight", 15, same(6, 1), []int{3, 3, 3, 3, 2, 2}},
		{"well-known ones", 15, []int{5, 9, 12, 13, 16, 45}, []int{4, 4, 3, 3, 3, 1}},
		{"as long as may be", 15, steep(16), []int{15, 15, 14, 13, 12, 11, 10, 9, 8, 7, 6, 5, 4, 3, 2, 1}},
		{"halved till three bits do", 3, []int{1, 1, 2, 3, 5}, []int{3, 3, 2, 2, 2}},
		{"halved, rounded up", 2, []int{8, 4, 2, 1}, []int{2, 2, 2, 2}},
		{"no symbol is lost by halves", 2, []int{1 << 30, 1, 1, 1}, []int{2, 2, 2, 2}},
		{"just as many as there are codes", 1, []int{1 << 30, 1}, []int{1, 1}},
	} {
		if l := huff.Lengths(c.most, c.weights...); !slices.Equal(l, c.want) {
			t.Errorf("%s: Lengths(%d, %v) = %v; want %v", c.name, c.most, c.weights, l, c.want)
		}
	}
}

// compare tells a test where lengths aren't the chapter's, and answers them, and how often weights were halved.
func compare(t *testing.T, most int, weights []int) ([]int, int) {
	t.Helper()
	l := huff.Lengths(most, slices.Clone(weights)...)
	want, halved := plainLengths(most, weights)
	if !slices.Equal(l, want) {
		t.Fatalf("Lengths(%d, %v) = %v; want %v", most, weights, l, want)
	}
	return l, halved
}

// TestLengthsOfSmallWeights goes through all short lists of them, and all numbers of bits.
func TestLengthsOfSmallWeights(t *testing.T) {
	for _, c := range []struct{ n, below int }{{1, 9}, {2, 9}, {3, 9}, {4, 8}, {5, 6}, {6, 4}, {7, 3}} {
		weights := make([]int, c.n)
		for goOn := true; goOn; goOn = step(weights, 0, c.below) {
			for most := 1; most <= 15; most++ {
				if above(weights) <= 1<<most {
					compare(t, most, weights)
				}
			}
		}
	}
}

// step makes a list the next one of those with numbers from least on and below another; false: it was the last one.
func step(l []int, least, below int) bool {
	for i := range l {
		l[i]++
		if l[i] < below {
			return true
		}
		l[i] = least
	}
	return false
}

// above answers how many numbers are above 0.
func above(l []int) int {
	n := 0
	for _, x := range l {
		if x > 0 {
			n++
		}
	}
	return n
}

// weigh answers n weights of some kind, some of them 0.
func weigh(rnd *rand.Rand, n int) []int {
	l := make([]int, n)
	kind, none := rnd.IntN(5), rnd.IntN(3)
	for i := range l {
		switch kind {
		case 0:
			l[i] = 1 + rnd.IntN(3)
		case 1:
			l[i] = 1 + rnd.IntN(1<<30)
		case 2:
			l[i] = 1 << rnd.IntN(31)
		case 3:
			l[i] = max(1, int(math.Exp(rnd.Float64()*20.79)))
		case 4:
			l[i] = 1<<30 - rnd.IntN(2)
		}
		if rnd.IntN(4) < none {
			l[i] = 0
		}
	}
	return l
}

// TestLengthsOfManyWeights holds lists of up to 1000 weights against the chapter's words; of some of them weights are halved, of some they aren't.
func TestLengthsOfManyWeights(t *testing.T) {
	rnd := rand.New(rand.NewPCG(5, 1))
	halvings, whole := 0, 0
	for range 400 {
		for _, n := range []int{2, 8, 19, 30, 50, 286} {
			weights := weigh(rnd, 1+rnd.IntN(n))
			for _, most := range []int{1 + rnd.IntN(15), 7, 15} {
				if above(weights) > 1<<most {
					continue
				}
				l, halved := compare(t, most, weights)
				check(t, rnd, weights, l, halved)
				if halved > 0 {
					halvings++
				} else {
					whole++
				}
			}
		}
	}
	if halvings < 500 || whole < 500 {
		t.Errorf("%d lists were halved, %d weren't", halvings, whole)
	}
}

// check tells a test where lengths break what holds of them: symbols of no weight have none, all others make a code, what is coded is read as it was, and heavier ones aren't longer.
func check(t *testing.T, rnd *rand.Rand, weights, lengths []int, halved int) {
	t.Helper()
	for s, n := range lengths {
		if (n == 0) != (weights[s] == 0) {
			t.Fatalf("Lengths of %v = %v", weights, lengths)
		}
	}
	if above(weights) == 0 {
		return
	}
	if !huff.Right(lengths) {
		t.Fatalf("Right(%v), the lengths of %v, is false", lengths, weights)
	}
	if halved == 0 {
		for s, n := range lengths {
			for o, m := range lengths {
				if m > n && n > 0 && weights[o] > weights[s] {
					t.Fatalf("Lengths of %v = %v: %d is heavier than %d, and longer", weights, lengths, o, s)
				}
			}
		}
	}
	readBack(t, rnd, lengths)
}

// readBack codes symbols, reads them, and tells a test where they are others.
func readBack(t *testing.T, rnd *rand.Rand, lengths []int) {
	t.Helper()
	c, ok := huff.New(lengths)
	if !ok {
		t.Fatalf("New(%v) tells that there is none", lengths)
	}
	codes := huff.Codes(lengths)
	var symbols []int
	for s, n := range lengths {
		if n > 0 {
			symbols = append(symbols, s)
		}
	}
	for range 50 {
		symbols = append(symbols, symbols[rnd.IntN(len(symbols))])
	}
	var w bits.Writer
	for _, s := range symbols {
		w.Code(lengths[s], codes[s])
	}
	end := w.Len()
	r := bits.New(w.Bytes())
	for i, s := range symbols {
		at := r.At()
		if x, ok := c.Next(r); x != s || !ok || r.At() != at+lengths[s] {
			t.Fatalf("lengths %v: Next at the symbol %d = %d, %v, %d bits; want %d of %d bits", lengths, i, x, ok, r.At()-at, s, lengths[s])
		}
	}
	if r.At() != end {
		t.Fatalf("lengths %v: %d bits were read; %d were put", lengths, r.At(), end)
	}
}

func TestLengthsAtTheLimits(t *testing.T) {
	for most := 1; most <= 15; most++ {
		n := min(1<<most, 1000)
		down := steep(n)
		slices.Reverse(down)
		ends := same(n, 1)
		ends[0], ends[n-1] = 1<<30, 1<<30
		for _, weights := range [][]int{same(n, 1), same(n, 1<<30), steep(n), down, ends, append(ends[:n-1:n-1], 0)} {
			compare(t, most, weights)
		}
		if n < 1000 {
			if l := huff.Lengths(most, steep(n)...); !slices.Equal(l, same(n, most)) {
				t.Errorf("Lengths(%d, ..) of as many symbols as codes: %v", most, l)
			}
		}
	}
}

func TestRight(t *testing.T) {
	for _, c := range []struct {
		name    string
		lengths []int
		want    bool
	}{
		{"no symbols", nil, false},
		{"no symbol that has a code", []int{0, 0}, false},
		{"one alone, of one bit", []int{1}, true},
		{"one alone among others, of one bit", []int{0, 0, 1, 0}, true},
		{"one alone, of two bits", []int{2}, false},
		{"one alone, of fifteen bits", []int{0, 15}, false},
		{"two of one bit", []int{0, 1, 1}, true},
		{"two of two bits", []int{2, 2}, false},
		{"something is left over", []int{1, 2}, false},
		{"nothing is left over", []int{2, 1, 2}, true},
		{"three of one bit", []int{1, 1, 1}, false},
		{"a code would have more bits", []int{1, 1, 15}, false},
		{"four of one bit", []int{1, 1, 1, 1}, false},
		{"the example of RFC 1951", []int{3, 3, 3, 3, 3, 2, 4, 4}, true},
		{"all lengths", []int{1, 2, 3, 4, 5, 6, 7, 8, 9, 10, 11, 12, 13, 14, 15, 15}, true},
		{"all lengths but one", []int{1, 2, 3, 4, 5, 6, 7, 8, 9, 10, 11, 12, 13, 14, 15}, false},
		{"all lengths, and one more", []int{1, 2, 3, 4, 5, 6, 7, 8, 9, 10, 11, 12, 13, 14, 15, 15, 15}, false},
		{"sixteen bits", []int{16}, false},
		{"sixteen bits beside a whole code", []int{1, 1, 16}, false},
		{"sixteen bits at the end of all lengths", []int{1, 2, 3, 4, 5, 6, 7, 8, 9, 10, 11, 12, 13, 14, 15, 16, 16}, false},
		{"below 0", []int{-1}, false},
		{"below 0 beside a whole code", []int{1, 1, -1}, false},
		{"below 0 beside one alone", []int{-1, 1}, false},
		{"the least number", []int{1, math.MinInt, 1}, false},
		{"the greatest number", []int{math.MaxInt, 1, 1}, false},
		{"2^15 of fifteen bits", same(1<<15, 15), true},
		{"one fewer", same(1<<15-1, 15), false},
		{"one more", same(1<<15+1, 15), false},
		{"a sum of 3", same(6, 1), false},
		{"a sum of 2^17 and 1", same(1<<18+2, 1), false},
	} {
		if ok := huff.Right(c.lengths); ok != c.want {
			t.Errorf("%s: Right is %v", c.name, ok)
		}
		checkNew(t, c.lengths, c.want)
	}
}

// checkNew tells a test where New doesn't tell what Right does.
func checkNew(t *testing.T, lengths []int, want bool) {
	t.Helper()
	if c, ok := huff.New(lengths); ok != want || (c != nil) != want {
		t.Fatalf("New of %d lengths is %v, and whether it is there %v; want %v", len(lengths), ok, c != nil, want)
	}
}

// TestRightOfShortLists goes through all of them.
func TestRightOfShortLists(t *testing.T) {
	for _, c := range []struct{ n, least, below int }{{1, -2, 18}, {2, -1, 17}, {3, -1, 17}, {4, 0, 6}, {5, 0, 5}, {6, 0, 4}} {
		lengths := same(c.n, c.least)
		for goOn := true; goOn; goOn = step(lengths, c.least, c.below) {
			want := plainRight(lengths)
			if huff.Right(lengths) != want {
				t.Fatalf("Right(%v) isn't %v", lengths, want)
			}
			checkNew(t, lengths, want)
			if want {
				checkCodes(t, lengths)
			}
		}
	}
}

// grown answers the lengths of a code that is made by cutting codes in two, in some order, and among them 0s.
func grown(rnd *rand.Rand, n int) []int {
	l := []int{1, 1}
	for range n {
		i := rnd.IntN(len(l))
		if rnd.IntN(2) == 0 {
			i = len(l) - 1
		}
		if l[i] < 15 {
			l[i]++
			l = append(l, l[i])
		}
	}
	l = append(l, make([]int, rnd.IntN(5))...)
	rnd.Shuffle(len(l), func(i, j int) { l[i], l[j] = l[j], l[i] })
	return l
}

// TestRightOfManyLengths holds codes, and what becomes of them when one length is another one, against the exact sum.
func TestRightOfManyLengths(t *testing.T) {
	rnd := rand.New(rand.NewPCG(5, 2))
	for range 2000 {
		l := grown(rnd, rnd.IntN(300))
		if !huff.Right(l) {
			t.Fatalf("Right(%v) is false", l)
		}
		checkCodes(t, l)
		l[rnd.IntN(len(l))] = rnd.IntN(18) - 1
		want := plainRight(l)
		if huff.Right(l) != want {
			t.Fatalf("Right(%v) isn't %v", l, want)
		}
		checkNew(t, l, want)
	}
}

// checkCodes tells a test where codes aren't the chapter's, or one begins another one.
func checkCodes(t *testing.T, lengths []int) {
	t.Helper()
	codes, want := huff.Codes(lengths), plainCodes(lengths)
	if len(codes) != len(lengths) {
		t.Fatalf("Codes(%v) = %v", lengths, codes)
	}
	var digits []string
	for s, x := range codes {
		n, _ := strconv.ParseUint("0"+want[s], 2, 64)
		if x != n || len(want[s]) != lengths[s] {
			t.Fatalf("Codes(%v) = %v; want %v", lengths, codes, want)
		}
		if want[s] != "" {
			digits = append(digits, want[s])
		}
	}
	slices.Sort(digits)
	for i := range digits[1:] { // of texts in order, one that begins any begins the next one
		if strings.HasPrefix(digits[i+1], digits[i]) {
			t.Fatalf("Codes(%v): %s begins %s", lengths, digits[i], digits[i+1])
		}
	}
}

func TestCodes(t *testing.T) {
	for _, c := range []struct {
		name    string
		lengths []int
		want    []uint64
	}{
		{"the chapter's example", []int{2, 2, 1}, []uint64{2, 3, 0}},
		{"the example of RFC 1951", []int{3, 3, 3, 3, 3, 2, 4, 4}, []uint64{2, 3, 4, 5, 6, 0, 14, 15}},
		{"one symbol alone", []int{1}, []uint64{0}},
		{"one symbol alone among others", []int{0, 0, 1}, []uint64{0, 0, 0}},
		{"two symbols", []int{1, 0, 1}, []uint64{0, 0, 1}},
		{"by lengths, then by numbers", []int{3, 1, 0, 3, 2}, []uint64{6, 0, 0, 7, 2}},
		{"longer by more than one bit", []int{1, 4, 4, 3, 3, 3}, []uint64{0, 14, 15, 4, 5, 6}},
		{"from the longest down", []int{15, 15, 14, 13, 12, 11, 10, 9, 8, 7, 6, 5, 4, 3, 2, 1}, []uint64{0x7ffe, 0x7fff, 0x3ffe, 0x1ffe, 0xffe, 0x7fe, 0x3fe, 0x1fe, 0xfe, 0x7e, 0x3e, 0x1e, 0xe, 6, 2, 0}},
	} {
		if l := huff.Codes(c.lengths); !slices.Equal(l, c.want) {
			t.Errorf("%s: Codes(%v) = %v; want %v", c.name, c.lengths, l, c.want)
		}
		checkCodes(t, c.lengths)
	}
	all := huff.Codes(same(1<<15, 15))
	for s, x := range all {
		if x != uint64(s) {
			t.Fatalf("of 2^15 symbols %d has the code %d", s, x)
		}
	}
}

// TestFixedCodes are those that RFC 1951 agrees upon.
func TestFixedCodes(t *testing.T) {
	lengths := slices.Concat(same(144, 8), same(112, 9), same(24, 7), same(8, 8))
	codes := huff.Codes(lengths)
	for _, c := range []struct {
		from, to int
		first    uint64
	}{{0, 143, 0b00110000}, {144, 255, 0b110010000}, {256, 279, 0}, {280, 287, 0b11000000}} {
		for s := c.from; s <= c.to; s++ {
			if want := c.first + uint64(s-c.from); codes[s] != want {
				t.Errorf("the code of %d is %b; want %b", s, codes[s], want)
			}
		}
	}
	readBack(t, rand.New(rand.NewPCG(5, 3)), lengths)
}

// digitsLeft answers the bits that are left, as a text, and a reader that stands at them: the lowest n bits of a number, the highest first.
func digitsLeft(n int, x uint64) (string, *bits.Reader) {
	var w bits.Writer
	w.Put((8-n%8)%8, math.MaxUint64)
	passed := w.Len()
	w.Code(n, x)
	r := bits.New(w.Bytes())
	r.Bits(passed)
	digits := strconv.FormatUint(x, 2)
	return strings.Repeat("0", max(0, n-len(digits))) + digits[:min(n, len(digits))], r
}

// TestNext reads all that sixteen bits, and any fewer, can be.
func TestNext(t *testing.T) {
	for _, lengths := range [][]int{
		{1},
		{0, 0, 0, 1, 0},
		{1, 1},
		{0, 2, 1, 2},
		{3, 3, 3, 3, 3, 2, 4, 4},
		{1, 4, 4, 3, 3, 3},
		{15, 15, 14, 13, 12, 11, 10, 9, 8, 7, 6, 5, 4, 3, 2, 1},
		{1, 2, 3, 4, 5, 6, 7, 8, 9, 10, 11, 12, 13, 14, 15, 15},
		append(same(1<<14, 15), 1),
		grown(rand.New(rand.NewPCG(5, 4)), 100),
	} {
		c, ok := huff.New(lengths)
		if !ok {
			t.Fatalf("New(%v) tells that there is none", lengths)
		}
		symbols := map[string]int{}
		for s, code := range plainCodes(lengths) {
			if code != "" {
				symbols[code] = s
			}
		}
		for n := range 17 {
			for x := range uint64(1) << n {
				checkNext(t, c, symbols, n, x)
			}
		}
	}
}

// checkNext tells a test where the next symbol isn't the one whose code the bits begin with.
func checkNext(t *testing.T, c *huff.Coder, symbols map[string]int, n int, x uint64) {
	t.Helper()
	digits, r := digitsLeft(n, x)
	at, want, is, length := r.At(), 0, false, 0
	for k := 1; k <= n && !is; k++ {
		if want, is = symbols[digits[:k]]; is {
			length = k
		}
	}
	if s, ok := c.Next(r); s != want || ok != is || is && r.At() != at+length {
		t.Fatalf("Next of %s = %d, %v, %d bits; want %d, %v, %d bits", digits, s, ok, r.At()-at, want, is, length)
	}
}

// TestNextBehindAFault: a coder is as it was behind bits that tell nothing.
func TestNextBehindAFault(t *testing.T) {
	c, _ := huff.New([]int{0, 1})
	for range 3 {
		if s, ok := c.Next(bits.New([]byte{255, 255})); s != 0 || ok {
			t.Errorf("Next of ones = %d, %v", s, ok)
		}
		if s, ok := c.Next(bits.New(nil)); s != 0 || ok {
			t.Errorf("Next of nothing = %d, %v", s, ok)
		}
		r := bits.New([]byte{0xfe})
		if s, ok := c.Next(r); s != 1 || !ok || r.At() != 1 {
			t.Errorf("Next = %d, %v", s, ok)
		}
	}
}

// TestCodersApart: what one reads counts for no other one, and readers can be read by turns.
func TestCodersApart(t *testing.T) {
	a, _ := huff.New([]int{1, 2, 2})
	b, _ := huff.New([]int{2, 2, 1})
	again, _ := huff.New([]int{1, 2, 2})
	first, second := bits.New([]byte{0b01011001}), bits.New([]byte{0b01011001})
	for _, want := range []struct{ a, b int }{{1, 0}, {0, 2}, {2, 1}} {
		x, ok := a.Next(first)
		y, is := b.Next(second)
		if x != want.a || y != want.b || !ok || !is {
			t.Errorf("Next by turns = %d, %d; want %v", x, y, want)
		}
	}
	if x, ok := again.Next(bits.New([]byte{0b01})); x != 1 || !ok {
		t.Errorf("Next of another one = %d, %v", x, ok)
	}
}

// TestWhatIsHandedIn isn't changed, spare room included, and isn't kept.
func TestWhatIsHandedIn(t *testing.T) {
	room := []int{8, 4, 2, 1, 9, 9, 9}
	huff.Lengths(2, room[:4]...)
	huff.Lengths(15, room[:4]...)
	huff.Lengths(15, room[:1]...)
	if !slices.Equal(room, []int{8, 4, 2, 1, 9, 9, 9}) {
		t.Errorf("weights became %v", room)
	}
	lengths := []int{3, 1, 0, 3, 2, 9, 9}
	huff.Right(lengths[:5])
	huff.Codes(lengths[:5])
	c, _ := huff.New(lengths[:5])
	if !slices.Equal(lengths, []int{3, 1, 0, 3, 2, 9, 9}) {
		t.Errorf("lengths became %v", lengths)
	}
	clear(lengths)
	r := bits.New([]byte{0b11111010, 0}) // 0 10 111 110 ..
	for _, want := range []int{1, 4, 3, 0} {
		if s, ok := c.Next(r); s != want || !ok {
			t.Errorf("Next behind writing on the lengths = %d, %v; want %d", s, ok, want)
		}
	}
}

// TestWhatIsHandedOut is new memory.
func TestWhatIsHandedOut(t *testing.T) {
	spoil := func(l []int) {
		for i := range l[:cap(l)] {
			l[:cap(l)][i] = 77
		}
	}
	weights := []int{1, 1, 2}
	first := huff.Lengths(15, weights...)
	second := huff.Lengths(15, weights...)
	spoil(first)
	if !slices.Equal(weights, []int{1, 1, 2}) || !slices.Equal(second, []int{2, 2, 1}) || !slices.Equal(huff.Lengths(15, weights...), []int{2, 2, 1}) {
		t.Error("Lengths shares memory")
	}
	codes, others := huff.Codes(second), huff.Codes(second)
	clear(codes[:cap(codes)])
	if !slices.Equal(others, []uint64{2, 3, 0}) || !slices.Equal(huff.Codes(second), []uint64{2, 3, 0}) {
		t.Error("Codes shares memory")
	}
}

// TestWhatIsNotTold: nothing is promised of these, but that each call ends.
func TestWhatIsNotTold(t *testing.T) {
	for _, most := range []int{math.MinInt, -1, 0, 1, 2, 15, 16, 64, math.MaxInt} {
		for _, weights := range [][]int{nil, {0}, {5}, {1, 1}, {1, 1, 1}, same(5, 1<<30), {-1, 1, 1}, {math.MinInt, -7}, {math.MaxInt, math.MaxInt, math.MaxInt, 1}, steep(300), same(3000, 7), {math.MaxInt, math.MinInt, 1 << 40}} {
			huff.Lengths(most, weights...)
		}
	}
	for _, lengths := range [][]int{nil, {0, 0}, {2}, {1, 1, 1}, {-1}, {16}, {math.MinInt, 1}, {math.MaxInt, 1, 1}, {63, 64, 65}} {
		huff.Codes(lengths)
	}
}
