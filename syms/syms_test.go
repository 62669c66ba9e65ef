package syms_test

import (
	"math"
	"math/rand/v2"
	"slices"
	"testing"

	"inkwell/api"
	"inkwell/huff"
	"inkwell/lz"
	"inkwell/syms"
)

// told is what a symbol tells, by the chapter's words.
type told struct {
	s, least, bits int
}

// plainLengths answers what the chapter says of the symbols of lengths.
func plainLengths() []told {
	var l []told
	for n := 3; n <= 10; n++ {
		l = append(l, told{257 + len(l), n, 0})
	}
	for i, four := range [][]int{{11, 13, 15, 17}, {19, 23, 27, 31}, {35, 43, 51, 59}, {67, 83, 99, 115}, {131, 163, 195, 227}} {
		for _, n := range four {
			l = append(l, told{257 + len(l), n, 1 + i})
		}
	}
	return append(l, told{285, 258, 0})
}

// plainDistances answers what the chapter says of the symbols of distances: each least one is the least one ahead, and 2 to the bits of that.
func plainDistances() []told {
	l := []told{{0, 1, 0}, {1, 2, 0}, {2, 3, 0}, {3, 4, 0}}
	for len(l) < 30 {
		ahead := l[len(l)-1]
		l = append(l, told{len(l), ahead.least + 1<<ahead.bits, len(l)/2 - 1})
	}
	return l
}

// plainSym answers the symbol of a number: the last one whose least number isn't above it.
func plainSym(l []told, n int) syms.Sym {
	var x syms.Sym
	for _, c := range l {
		if c.least <= n {
			x = syms.Sym{S: c.s, Bits: c.bits, Extra: uint64(n - c.least)}
		}
	}
	return x
}

// far are numbers that are no symbols and nothing that a match may have, and some at the edges.
var far = []int{math.MinInt, math.MinInt + 1, math.MinInt + 256, math.MinInt + 257, math.MinInt32, -32768, -258, -257, -256, -2, -1, 1 << 16, 1 << 30, math.MaxInt32, 1 << 32, 1<<32 + 3, math.MaxInt - 1, math.MaxInt}

func TestConstants(t *testing.T) {
	if syms.Literals != 286 || syms.Distances != 30 || syms.End != 256 {
		t.Errorf("Literals %d, Distances %d, End %d", syms.Literals, syms.Distances, syms.End)
	}
}

func TestPlainTables(t *testing.T) {
	lengths, distances := plainLengths(), plainDistances()
	if n := len(lengths); n != 29 || lengths[8] != (told{265, 11, 1}) || lengths[27] != (told{284, 227, 5}) {
		t.Errorf("lengths: %v", lengths)
	}
	for s, want := range map[int]told{4: {4, 5, 1}, 5: {5, 7, 1}, 6: {6, 9, 2}, 7: {7, 13, 2}, 28: {28, 16385, 13}, 29: {29, 24577, 13}} {
		if distances[s] != want {
			t.Errorf("distances: %v", distances)
		}
	}
}

func TestLiteral(t *testing.T) {
	for b := range 256 {
		if x := syms.Literal(byte(b)); x != (syms.Sym{S: b}) {
			t.Errorf("Literal(%d) = %v", b, x)
		}
	}
}

func TestLength(t *testing.T) {
	for _, c := range []struct {
		n    int
		want syms.Sym
	}{
		{3, syms.Sym{S: 257}},
		{4, syms.Sym{S: 258}},
		{10, syms.Sym{S: 264}},
		{11, syms.Sym{S: 265, Bits: 1}},
		{12, syms.Sym{S: 265, Bits: 1, Extra: 1}}, // the chapter's example
		{13, syms.Sym{S: 266, Bits: 1}},
		{18, syms.Sym{S: 268, Bits: 1, Extra: 1}},
		{19, syms.Sym{S: 269, Bits: 2}},
		{34, syms.Sym{S: 272, Bits: 2, Extra: 3}},
		{35, syms.Sym{S: 273, Bits: 3}},
		{66, syms.Sym{S: 276, Bits: 3, Extra: 7}},
		{67, syms.Sym{S: 277, Bits: 4}},
		{130, syms.Sym{S: 280, Bits: 4, Extra: 15}},
		{131, syms.Sym{S: 281, Bits: 5}},
		{226, syms.Sym{S: 283, Bits: 5, Extra: 31}},
		{227, syms.Sym{S: 284, Bits: 5}},
		{257, syms.Sym{S: 284, Bits: 5, Extra: 30}}, // the last one: 258 has a symbol of its own
		{258, syms.Sym{S: 285}},
		{2, syms.Sym{S: 257}},
		{0, syms.Sym{S: 257}},
		{-1, syms.Sym{S: 257}},
		{259, syms.Sym{S: 285}},
		{math.MinInt, syms.Sym{S: 257}},
		{math.MaxInt, syms.Sym{S: 285}},
	} {
		if x := syms.Length(c.n); x != c.want {
			t.Errorf("Length(%d) = %v, want %v", c.n, x, c.want)
		}
	}
	l := plainLengths()
	for n := -300; n <= 40000; n++ {
		if x, want := syms.Length(n), plainSym(l, min(max(n, 3), 258)); x != want {
			t.Fatalf("Length(%d) = %v, want %v", n, x, want)
		}
	}
	for _, n := range far {
		if x, want := syms.Length(n), plainSym(l, min(max(n, 3), 258)); x != want {
			t.Errorf("Length(%d) = %v, want %v", n, x, want)
		}
	}
}

func TestDistance(t *testing.T) {
	for _, c := range []struct {
		n    int
		want syms.Sym
	}{
		{1, syms.Sym{}},
		{2, syms.Sym{S: 1}},
		{4, syms.Sym{S: 3}},
		{5, syms.Sym{S: 4, Bits: 1}},
		{6, syms.Sym{S: 4, Bits: 1, Extra: 1}},
		{7, syms.Sym{S: 5, Bits: 1}},
		{8, syms.Sym{S: 5, Bits: 1, Extra: 1}},
		{9, syms.Sym{S: 6, Bits: 2}},
		{13, syms.Sym{S: 7, Bits: 2}},
		{256, syms.Sym{S: 15, Bits: 6, Extra: 63}},
		{257, syms.Sym{S: 16, Bits: 7}},
		{16384, syms.Sym{S: 27, Bits: 12, Extra: 4095}},
		{16385, syms.Sym{S: 28, Bits: 13}},
		{24576, syms.Sym{S: 28, Bits: 13, Extra: 8191}},
		{24577, syms.Sym{S: 29, Bits: 13}},
		{32767, syms.Sym{S: 29, Bits: 13, Extra: 8190}},
		{32768, syms.Sym{S: 29, Bits: 13, Extra: 8191}}, // the chapter's example
		{0, syms.Sym{}},
		{-1, syms.Sym{}},
		{32769, syms.Sym{S: 29, Bits: 13, Extra: 8191}},
		{math.MinInt, syms.Sym{}},
		{math.MaxInt, syms.Sym{S: 29, Bits: 13, Extra: 8191}},
	} {
		if x := syms.Distance(c.n); x != c.want {
			t.Errorf("Distance(%d) = %v, want %v", c.n, x, c.want)
		}
	}
	l := plainDistances()
	for n := -300; n <= 70000; n++ {
		if x, want := syms.Distance(n), plainSym(l, min(max(n, 1), 32768)); x != want {
			t.Fatalf("Distance(%d) = %v, want %v", n, x, want)
		}
	}
	for _, n := range far {
		if x, want := syms.Distance(n), plainSym(l, min(max(n, 1), 32768)); x != want {
			t.Errorf("Distance(%d) = %v, want %v", n, x, want)
		}
	}
}

// checkOf holds what is answered of each number against the symbols that there are.
func checkOf(t *testing.T, name string, of func(int) (int, int, bool), l []told) {
	t.Helper()
	want := map[int]told{}
	for _, c := range l {
		want[c.s] = c
	}
	check := func(s int) {
		t.Helper()
		c, is := want[s]
		if least, bits, ok := of(s); least != c.least || bits != c.bits || ok != is {
			t.Errorf("%s(%d) = %d, %d, %v, want %d, %d, %v", name, s, least, bits, ok, c.least, c.bits, is)
		}
	}
	for s := -1000; s <= 1000; s++ {
		check(s)
	}
	for _, s := range far {
		check(s)
	}
}

func TestLengthOf(t *testing.T) {
	checkOf(t, "LengthOf", syms.LengthOf, plainLengths())
	for _, s := range []int{-1, 0, 'a', 255, 256, 286, 287} { // bytes, the end, and what has a code that is agreed upon alone
		if n, bits, ok := syms.LengthOf(s); n != 0 || bits != 0 || ok {
			t.Errorf("LengthOf(%d) = %d, %d, %v", s, n, bits, ok)
		}
	}
}

func TestDistanceOf(t *testing.T) {
	checkOf(t, "DistanceOf", syms.DistanceOf, plainDistances())
	for _, s := range []int{-1, 30, 31, 257} {
		if n, bits, ok := syms.DistanceOf(s); n != 0 || bits != 0 || ok {
			t.Errorf("DistanceOf(%d) = %d, %d, %v", s, n, bits, ok)
		}
	}
}

func TestSymbolsTellTheirNumbers(t *testing.T) {
	for _, c := range []struct {
		name        string
		least, most int
		sym         func(int) syms.Sym
		of          func(int) (int, int, bool)
	}{
		{"length", lz.Least, lz.Most, syms.Length, syms.LengthOf},
		{"distance", 1, lz.Back, syms.Distance, syms.DistanceOf},
	} {
		met := map[syms.Sym]int{}
		for n := c.least; n <= c.most; n++ {
			x := c.sym(n)
			least, bits, ok := c.of(x.S)
			if !ok || bits != x.Bits || least+int(x.Extra) != n {
				t.Errorf("%s %d: %v, of which %d, %d, %v is told", c.name, n, x, least, bits, ok)
			}
			if x.Extra >= 1<<x.Bits {
				t.Errorf("%s %d: %v doesn't follow in so many bits", c.name, n, x)
			}
			if other, ok := met[x]; ok {
				t.Errorf("%s: %d and %d are both %v", c.name, other, n, x)
			}
			met[x] = n
		}
	}
}

// plainWeights counts by the chapter's words, token by token.
func plainWeights(tokens []api.Token) ([]int, []int) {
	lengths, distances := plainLengths(), plainDistances()
	a, b := make([]int, 286), make([]int, 30)
	for _, t := range tokens {
		if t.Length == 0 {
			a[t.Byte]++
		} else {
			a[plainSym(lengths, t.Length).S]++
			b[plainSym(distances, t.Distance).S]++
		}
	}
	a[256]++
	return a, b
}

// checkWeights holds what Weights answers against the chapter's words.
func checkWeights(t *testing.T, name string, tokens ...api.Token) {
	t.Helper()
	a, b := syms.Weights(tokens...)
	wantA, wantB := plainWeights(tokens)
	if !slices.Equal(a, wantA) || !slices.Equal(b, wantB) {
		t.Errorf("%s: Weights = %v, %v, want %v, %v", name, a, b, wantA, wantB)
	}
}

func TestWeightsOfFew(t *testing.T) {
	a, b := syms.Weights()
	for s, n := range a {
		if n != 0 && s != 256 {
			t.Errorf("of nothing %d is met %d times", s, n)
		}
	}
	if len(a) != 286 || a[256] != 1 || !slices.Equal(b, make([]int, 30)) {
		t.Errorf("Weights of nothing = %v, %v", a, b)
	}
	a, b = syms.Weights(api.Token{}, api.Token{Byte: 'a'}, api.Token{Length: 3, Distance: 1}, api.Token{Byte: 'a'}, api.Token{Length: 258, Distance: 32768}, api.Token{Length: 258, Distance: 2})
	want := map[int]int{0: 1, 'a': 2, 256: 1, 257: 1, 285: 2}
	for s, n := range a {
		if n != want[s] {
			t.Errorf("%d is met %d times, want %d", s, n, want[s])
		}
	}
	want = map[int]int{0: 1, 1: 1, 29: 1}
	for s, n := range b {
		if n != want[s] {
			t.Errorf("the distance's symbol %d is met %d times, want %d", s, n, want[s])
		}
	}
	if len(a) != 286 || len(b) != 30 {
		t.Errorf("Weights: %d and %d numbers", len(a), len(b))
	}
}

func TestWeights(t *testing.T) {
	for c := range 256 {
		checkWeights(t, "a literal", api.Token{Byte: byte(c)})
	}
	for n := 3; n <= 258; n++ {
		checkWeights(t, "a match, by its length", api.Token{Length: n, Distance: 1})
	}
	for d := 1; d <= 32768; d += 1 + d/7 {
		checkWeights(t, "a match, by its distance", api.Token{Length: 3, Distance: d})
	}
	checkWeights(t, "what was pressed", lz.Press([]byte("abracadabra, abracadabra, abracadabra"))...)
	r := rand.New(rand.NewPCG(7, 1))
	for range 200 {
		var tokens []api.Token
		for range r.IntN(300) {
			token := api.Token{Byte: byte(r.IntN(256))}
			if r.IntN(2) == 0 {
				token = api.Token{Length: 3 + r.IntN(256), Distance: 1 + r.IntN(1<<r.IntN(16))}
			}
			tokens = append(tokens, token)
		}
		checkWeights(t, "drawn ones", tokens...)
	}
}

func TestWeightsOfMany(t *testing.T) {
	const n = 300000
	tokens := make([]api.Token, 0, 2*n)
	for range n {
		tokens = append(tokens, api.Token{Byte: 7}, api.Token{Length: 258, Distance: 1})
	}
	if a, b := syms.Weights(tokens...); a[7] != n || a[285] != n || a[256] != 1 || b[0] != n {
		t.Errorf("Weights of many: %d, %d, %d, %d", a[7], a[285], a[256], b[0])
	}
}

func TestWeightsOfWhatMayNotStandEnds(t *testing.T) {
	for _, length := range append([]int{0, 1, 2, 3, 259}, far...) {
		for _, distance := range append([]int{0, 1, 32769}, far...) {
			syms.Weights(api.Token{Length: length, Distance: distance}, api.Token{Byte: 9, Length: length, Distance: distance})
		}
	}
}

func TestFixed(t *testing.T) {
	a, b := syms.Fixed()
	if len(a) != 288 || len(b) != 32 {
		t.Fatalf("Fixed: %d and %d lengths", len(a), len(b))
	}
	for s, n := range a {
		want := 8
		if s >= 144 && s < 256 {
			want = 9
		} else if s >= 256 && s < 280 {
			want = 7
		}
		if n != want {
			t.Errorf("the symbol %d has %d bits, want %d", s, n, want)
		}
	}
	for s, n := range b {
		if n != 5 {
			t.Errorf("the distance's symbol %d has %d bits", s, n)
		}
	}
	if !huff.Right(a) || !huff.Right(b) {
		t.Errorf("there is no code of the lengths that are agreed upon")
	}
}

func TestFixedCodes(t *testing.T) {
	// RFC 1951 names these codes, 3.2.6.
	a, b := syms.Fixed()
	codes := huff.Codes(a)
	for s, want := range map[int]uint64{0: 0b00110000, 143: 0b10111111, 144: 0b110010000, 255: 0b111111111, 256: 0, 279: 0b0010111, 280: 0b11000000, 287: 0b11000111} {
		if codes[s] != want {
			t.Errorf("the symbol %d has the code %b, want %b", s, codes[s], want)
		}
	}
	for s, c := range huff.Codes(b) {
		if c != uint64(s) {
			t.Errorf("the distance's symbol %d has the code %b", s, c)
		}
	}
}

func TestHandedInStays(t *testing.T) {
	tokens := []api.Token{{Byte: 'a'}, {Length: 12, Distance: 1}, {Byte: 'b'}, {Byte: 'c', Length: 900, Distance: -1}}
	kept := slices.Clone(tokens)
	syms.Weights(tokens[:3]...)
	if !slices.Equal(tokens, kept) {
		t.Errorf("Weights changed what was handed in: %v", tokens)
	}
}

func TestHandedOutIsNew(t *testing.T) {
	for name, call := range map[string]func() ([]int, []int){
		"Fixed":              syms.Fixed,
		"Weights":            func() ([]int, []int) { return syms.Weights(api.Token{Byte: 'a'}, api.Token{Length: 3, Distance: 1}) },
		"Weights of nothing": func() ([]int, []int) { return syms.Weights() },
	} {
		a, b := call()
		keptA, keptB := slices.Clone(a), slices.Clone(b)
		wipe(a, -9)
		if !slices.Equal(b, keptB) {
			t.Errorf("%s: the first list shares memory with the other one", name)
		}
		wipe(b, -8)
		if slices.Contains(a, -8) {
			t.Errorf("%s: the other list shares memory with the first one", name)
		}
		if a, b := call(); !slices.Equal(a, keptA) || !slices.Equal(b, keptB) {
			t.Errorf("%s: a later answer shares memory with one ahead of it: %v, %v", name, a, b)
		}
	}
}

// wipe writes a number all over a list, spare room included.
func wipe(l []int, n int) {
	l = l[:cap(l)]
	for i := range l {
		l[i] = n
	}
}
