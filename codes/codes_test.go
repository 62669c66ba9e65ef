package codes_test

import (
	"bytes"
	"compress/flate"
	"io"
	"math"
	"math/rand/v2"
	"slices"
	"strconv"
	"strings"
	"testing"

	"inkwell/bits"
	"inkwell/codes"
	"inkwell/huff"
	"inkwell/lz"
	"inkwell/syms"
)

// order is the chapter's, of items.
var order = []int{16, 17, 18, 0, 8, 7, 9, 6, 10, 5, 11, 4, 12, 3, 13, 2, 14, 1, 15}

// item answers a length, once.
func item(n int) codes.Item { return codes.Item{S: n} }

// ahead answers the length ahead, n times more.
func ahead(n int) codes.Item { return codes.Item{S: 16, Bits: 2, Extra: uint64(n - 3)} }

// zeros answers n times 0.
func zeros(n int) codes.Item {
	if n < 11 {
		return codes.Item{S: 17, Bits: 3, Extra: uint64(n - 3)}
	}
	return codes.Item{S: 18, Bits: 7, Extra: uint64(n - 11)}
}

// same answers n times a length.
func same(n, x int) []int {
	return slices.Repeat([]int{x}, n)
}

// all puts lists together.
func all(l ...[]int) []int {
	return slices.Concat(l...)
}

// low answers the lowest bits of a number as digits, the lowest first.
func low(n int, x uint64) string {
	s := ""
	for i := range n {
		s += strconv.Itoa(int(x >> i & 1))
	}
	return s
}

// texts answers each item's code as digits; an empty text, if it has none.
func texts(lengths []int) []string {
	l := make([]string, len(lengths))
	for s, x := range huff.Codes(lengths) {
		for i := lengths[s] - 1; i >= 0; i-- {
			l[s] += strconv.Itoa(int(x >> i & 1))
		}
	}
	return l
}

// told answers bits as digits: numbers as they are put, the lengths of all items' codes, and items.
func told(literals, distances int, lengths []int, l ...codes.Item) string {
	s := low(5, uint64(literals)) + low(5, uint64(distances)) + low(4, 15)
	for _, x := range order {
		s += low(3, uint64(lengths[x]))
	}
	code := texts(lengths)
	for _, x := range l {
		s += code[x.S] + low(x.Bits, x.Extra)
	}
	return s
}

// reader answers one of which just such bits are left.
func reader(digits string) *bits.Reader {
	var w bits.Writer
	w.Put((8-len(digits)%8)%8, math.MaxUint64)
	passed := w.Len()
	for _, c := range digits {
		w.Put(1, uint64(c-'0'))
	}
	r := bits.New(w.Bytes())
	r.Bits(passed)
	return r
}

// digitsOf answers n bits of a writer from one on.
func digitsOf(w *bits.Writer, from, n int) string {
	b := w.Bytes()
	s := make([]byte, n)
	for i := range s {
		s[i] = '0' + b[(from+i)/8]>>((from+i)%8)&1
	}
	return string(s)
}

// plainPress goes by the chapter's words.
func plainPress(l []int) []codes.Item {
	var items []codes.Item
	for at := 0; at < len(l); {
		n := 0
		for at+n < len(l) && l[at+n] == l[at] {
			n++
		}
		x := codes.Item{S: l[at]}
		switch {
		case l[at] == 0 && n >= 11:
			n = min(n, 138)
			x = codes.Item{S: 18, Bits: 7, Extra: uint64(n - 11)}
		case l[at] == 0 && n >= 3:
			x = codes.Item{S: 17, Bits: 3, Extra: uint64(n - 3)}
		case l[at] != 0 && at > 0 && l[at-1] == l[at] && n >= 3:
			n = min(n, 6)
			x = codes.Item{S: 16, Bits: 2, Extra: uint64(n - 3)}
		default:
			n = 1
		}
		items = append(items, x)
		at += n
	}
	return items
}

// plainCut answers lengths without the 0s at their end, but at least so many.
func plainCut(l []int, least int) []int {
	l = slices.Clone(l)
	for len(l) > least && l[len(l)-1] == 0 {
		l = l[:len(l)-1]
	}
	return l
}

// plainPut answers what is put as digits, by the chapter's words.
func plainPut(literals, distances []int) string {
	a, b := plainCut(literals, 257), plainCut(distances, 1)
	items := plainPress(all(a, b))
	weights := make([]int, 19)
	for _, x := range items {
		weights[x.S]++
	}
	lengths := huff.Lengths(7, weights...)
	n := 19
	for n > 4 && lengths[order[n-1]] == 0 {
		n--
	}
	s := low(5, uint64(len(a)-257)) + low(5, uint64(len(b)-1)) + low(4, uint64(n-4))
	for _, x := range order[:n] {
		s += low(3, uint64(lengths[x]))
	}
	code := texts(lengths)
	for _, x := range items {
		s += code[x.S] + low(x.Bits, x.Extra)
	}
	return s
}

// plainGet reads digits by the chapter's words; it also answers what is left of them.
func plainGet(d string) (literals, distances []int, left string, ok bool) {
	ended := false
	number := func(n int) int {
		if n > len(d) {
			ended = true
			return 0
		}
		x := 0
		for i := range n {
			x += int(d[i]-'0') << i
		}
		d = d[n:]
		return x
	}
	a, b, n := 257+number(5), 1+number(5), 4+number(4)
	lengths := make([]int, 19)
	for _, s := range order[:n] {
		lengths[s] = number(3)
	}
	if ended || a > 286 || b > 30 || !huff.Right(lengths) {
		return nil, nil, "", false
	}
	code := texts(lengths)
	var l []int
	for len(l) < a+b {
		s := slices.IndexFunc(code, func(c string) bool { return c != "" && strings.HasPrefix(d, c) })
		if s < 0 || s == 16 && len(l) == 0 {
			return nil, nil, "", false
		}
		d = d[len(code[s]):]
		switch s {
		case 16:
			l = append(l, same(3+number(2), l[len(l)-1])...)
		case 17:
			l = append(l, make([]int, 3+number(3))...)
		case 18:
			l = append(l, make([]int, 11+number(7))...)
		default:
			l = append(l, s)
		}
		if ended {
			return nil, nil, "", false
		}
	}
	if len(l) > a+b || l[256] == 0 {
		return nil, nil, "", false
	}
	return l[:a], l[a:], d, true
}

// checkGet tells a test where Get isn't what the chapter's words are, or a refused one isn't as if it weren't called.
func checkGet(t *testing.T, name, digits string) bool {
	t.Helper()
	wantA, wantB, left, want := plainGet(digits)
	r := reader(digits)
	at := r.At()
	a, b, ok := codes.Get(r)
	if ok != want || !slices.Equal(a, wantA) || !slices.Equal(b, wantB) {
		t.Fatalf("%s: Get = %v, %v, %v; want %v, %v, %v", name, a, b, ok, wantA, wantB, want)
	}
	if ok && r.Left() != len(left) {
		t.Fatalf("%s: %d bits are left; want %d", name, r.Left(), len(left))
	}
	if !ok && (r.At() != at || r.Left() != len(digits)) {
		t.Fatalf("%s: refused, but %d bits are read", name, r.At()-at)
	}
	return ok
}

func TestPress(t *testing.T) {
	for _, c := range []struct {
		name string
		l    []int
		want []codes.Item
	}{
		{"the chapter's example", []int{5, 5, 5, 5}, []codes.Item{item(5), ahead(3)}},
		{"nothing", nil, nil},
		{"nothing, in a list", []int{}, nil},
		{"0 once", []int{0}, []codes.Item{item(0)}},
		{"0 twice", []int{0, 0}, []codes.Item{item(0), item(0)}},
		{"0 three times", same(3, 0), []codes.Item{{S: 17, Bits: 3, Extra: 0}}},
		{"0 ten times", same(10, 0), []codes.Item{{S: 17, Bits: 3, Extra: 7}}},
		{"0 eleven times", same(11, 0), []codes.Item{{S: 18, Bits: 7, Extra: 0}}},
		{"0 as often as an item tells", same(138, 0), []codes.Item{{S: 18, Bits: 7, Extra: 127}}},
		{"and once more", same(139, 0), []codes.Item{zeros(138), item(0)}},
		{"and twice more", same(140, 0), []codes.Item{zeros(138), item(0), item(0)}},
		{"and three times more", same(141, 0), []codes.Item{zeros(138), zeros(3)}},
		{"and ten times more", same(148, 0), []codes.Item{zeros(138), zeros(10)}},
		{"and eleven times more", same(149, 0), []codes.Item{zeros(138), zeros(11)}},
		{"and so often again", same(277, 0), []codes.Item{zeros(138), zeros(138), item(0)}},
		{"another one once", []int{7}, []codes.Item{item(7)}},
		{"another one twice", same(2, 7), []codes.Item{item(7), item(7)}},
		{"another one three times: two more aren't enough", same(3, 7), []codes.Item{item(7), item(7), item(7)}},
		{"another one four times", same(4, 7), []codes.Item{item(7), {S: 16, Bits: 2, Extra: 0}}},
		{"seven times", same(7, 7), []codes.Item{item(7), {S: 16, Bits: 2, Extra: 3}}},
		{"eight times", same(8, 7), []codes.Item{item(7), ahead(6), item(7)}},
		{"nine times", same(9, 7), []codes.Item{item(7), ahead(6), item(7), item(7)}},
		{"ten times", same(10, 7), []codes.Item{item(7), ahead(6), ahead(3)}},
		{"thirteen times", same(13, 7), []codes.Item{item(7), ahead(6), ahead(6)}},
		{"fourteen times", same(14, 7), []codes.Item{item(7), ahead(6), ahead(6), item(7)}},
		{"a third one between", []int{1, 1, 1, 1, 2, 1, 1, 1, 2, 2, 2, 2}, []codes.Item{item(1), ahead(3), item(2), item(1), item(1), item(1), item(2), ahead(3)}},
		{"0 ahead of them", []int{0, 4, 4, 4, 0, 4, 4, 4, 4}, []codes.Item{item(0), item(4), item(4), item(4), item(0), item(4), ahead(3)}},
		{"0s aren't the length ahead", []int{4, 0, 0, 0, 0, 4}, []codes.Item{item(4), zeros(4), item(4)}},
		{"the greatest", same(5, 15), []codes.Item{item(15), ahead(4)}},
		{"all of them", []int{0, 1, 2, 3, 4, 5, 6, 7, 8, 9, 10, 11, 12, 13, 14, 15}, []codes.Item{item(0), item(1), item(2), item(3), item(4), item(5), item(6), item(7), item(8), item(9), item(10), item(11), item(12), item(13), item(14), item(15)}},
	} {
		if l := codes.Press(c.l); !slices.Equal(l, c.want) {
			t.Errorf("%s: Press(%v) = %v; want %v", c.name, c.l, l, c.want)
		}
	}
}

// checkPress tells a test where items aren't the chapter's, or don't tell the lengths.
func checkPress(t *testing.T, l []int) {
	t.Helper()
	items := codes.Press(l)
	if want := plainPress(l); !slices.Equal(items, want) {
		t.Fatalf("Press(%v) = %v; want %v", l, items, want)
	}
	var again []int
	for _, x := range items {
		switch x.S {
		case 16:
			again = append(again, same(3+int(x.Extra), again[len(again)-1])...)
		case 17:
			again = append(again, same(3+int(x.Extra), 0)...)
		case 18:
			again = append(again, same(11+int(x.Extra), 0)...)
		default:
			again = append(again, x.S)
		}
		if x.Extra >= 1<<x.Bits {
			t.Fatalf("Press(%v): %v has too few bits", l, x)
		}
	}
	if !slices.Equal(again, l) {
		t.Fatalf("Press(%v) tells %v", l, again)
	}
}

// TestPressOfShortLists goes through all of them, of few lengths.
func TestPressOfShortLists(t *testing.T) {
	for n := range 11 {
		l := make([]int, n)
		for goOn := true; goOn; goOn = step(l, 3) {
			checkPress(t, l)
		}
	}
}

// step makes a list the next one of numbers below another; false: it was the last one.
func step(l []int, below int) bool {
	for i := range l {
		l[i]++
		if l[i] < below {
			return true
		}
		l[i] = 0
	}
	return false
}

// TestPressOfRows holds rows of one length, of all sizes, between others.
func TestPressOfRows(t *testing.T) {
	for x := range 16 {
		for n := range 320 {
			checkPress(t, same(n, x))
			checkPress(t, all([]int{3}, same(n, x), []int{0, 3, 3}))
			checkPress(t, all(same(4, 0), same(n, x), same(20, 0)))
		}
	}
}

// drawn answers n lengths in rows.
func drawn(rnd *rand.Rand, n int) []int {
	var l []int
	most := 1 + rnd.IntN(30)
	below := 1 + rnd.IntN(16)
	for len(l) < n {
		x := rnd.IntN(below)
		if rnd.IntN(3) == 0 {
			x = 0
		}
		l = append(l, same(1+rnd.IntN(most), x)...)
	}
	return l[:n]
}

func TestPressOfDrawnLists(t *testing.T) {
	rnd := rand.New(rand.NewPCG(8, 1))
	for range 3000 {
		checkPress(t, drawn(rnd, rnd.IntN(700)))
	}
}

func TestPressOfMany(t *testing.T) {
	for _, x := range []int{0, 9} {
		n := 0
		for _, i := range codes.Press(same(3000000, x)) {
			switch i.S {
			case 16, 17:
				n += 3 + int(i.Extra)
			case 18:
				n += 11 + int(i.Extra)
			default:
				n++
			}
		}
		if n != 3000000 {
			t.Errorf("3000000 times %d is told as %d lengths", x, n)
		}
	}
}

// TestPutBits holds what is put against bits that were worked out by hand.
func TestPutBits(t *testing.T) {
	// x, the end: 120 0s, 1, 135 0s, 1; of distances one 0. Items: 18 and 109, 1, 18 and 124, 1, 0. Weights: 0 once, 1 and 18 twice.
	// Lengths: 0 and 1 two bits (0 is the lightest; of 1 and 18 the one made first is joined with it), 18 one bit: 0 is 10, 1 is 11, 18 is 0.
	literals := all(same(120, 0), []int{1}, same(135, 0), []int{1})
	want := "00000" + "00000" + "0111" + // 257, 1, and 18 lengths of items, up to that of 1
		"000" + "000" + "100" + "010" + strings.Repeat("000", 13) + "010" + // 16 17 18 0, 8 .. 14, 1
		"0" + "1011011" + "11" + "0" + "0011111" + "11" + "10"
	var w bits.Writer
	codes.Put(&w, literals, []int{0})
	if s := digitsOf(&w, 0, w.Len()); s != want {
		t.Errorf("Put puts %s; want %s", s, want)
	}
	// The end alone, of the longest length, then 0: 138 0s, 118 0s, 15, 0. Items: 18 twice, 15, 0.
	// Weights: 0 and 15 once are joined, two bits: 0 is 10, 15 is 11; 18 one bit: 0. 15 stands last in the order.
	want = "00000" + "00000" + "1111" +
		"000" + "000" + "100" + "010" + strings.Repeat("000", 14) + "010" +
		"0" + "1111111" + "0" + "1101011" + "11" + "10"
	w = bits.Writer{}
	codes.Put(&w, all(same(256, 0), []int{15}, same(29, 0)), same(30, 0))
	if s := digitsOf(&w, 0, w.Len()); s != want {
		t.Errorf("Put puts %s; want %s", s, want)
	}
	// 0 alone: of items 18 alone has a code, of one bit; four lengths of items are put at least.
	want = "00000" + "00000" + "0000" + "000" + "000" + "100" + "000" + "0" + "1111111" + "0" + "1011011"
	w = bits.Writer{}
	codes.Put(&w, same(257, 0), same(1, 0))
	if s := digitsOf(&w, 0, w.Len()); s != want {
		t.Errorf("Put puts %s; want %s", s, want)
	}
}

// checkPut tells a test where what is put isn't the chapter's, or isn't read as it was; n bits are put ahead.
func checkPut(t *testing.T, n int, literals, distances []int) {
	t.Helper()
	var w bits.Writer
	w.Put(n, math.MaxUint64)
	codes.Put(&w, literals, distances)
	want := plainPut(literals, distances)
	if w.Len() != n+len(want) || digitsOf(&w, n, len(want)) != want || digitsOf(&w, 0, n) != strings.Repeat("1", n) {
		t.Fatalf("Put(%v, %v) behind %d bits puts other bits", literals, distances, n)
	}
	w.Put(9, 0x155)
	r := bits.New(w.Bytes())
	r.Bits(n)
	a, b, ok := codes.Get(r)
	if literals[256] == 0 {
		if ok || a != nil || b != nil || r.At() != n {
			t.Fatalf("Get tells %v, %v of what has no end", a, b)
		}
		return
	}
	if !ok || !slices.Equal(a, plainCut(literals, 257)) || !slices.Equal(b, plainCut(distances, 1)) {
		t.Fatalf("what was put as %v, %v is read as %v, %v, %v", literals, distances, a, b, ok)
	}
	if x, ok := r.Bits(9); r.At() != w.Len() || x != 0x155 || !ok {
		t.Fatalf("behind Put(%v, %v) it isn't read on", literals, distances)
	}
}

// TestPutEdges holds the fewest and the most lengths, 0s at their ends, and rows that go on in distances.
func TestPutEdges(t *testing.T) {
	end := all(same(256, 0), []int{1})
	for _, literals := range [][]int{
		end,
		same(257, 0),
		same(286, 0),
		same(286, 8),
		same(257, 15),
		all(end, same(29, 0)),
		all(end, same(28, 0), []int{1}),
		all(end, []int{2}, same(28, 0)),
		all(end, []int{2}, same(3, 0)),
		all(same(255, 3), []int{0, 5}),
		all(same(255, 3), []int{5, 0}, same(20, 0)),
		all(same(256, 4), same(30, 9)),
		all(same(97, 0), []int{1}, same(158, 0), []int{2, 2}),
	} {
		for _, distances := range [][]int{{0}, {1}, {15}, {9}, same(30, 0), same(30, 9), same(30, 5), all([]int{1}, same(29, 0)), all(same(29, 0), []int{1}), all(same(29, 9), []int{0}), same(12, 0), {0, 0, 0, 1}, {9, 9, 0, 0, 0, 0}, {1, 1, 1, 2}} {
			for n := range 9 {
				checkPut(t, n, literals, distances)
			}
		}
	}
}

func TestPutOfDrawnLists(t *testing.T) {
	rnd := rand.New(rand.NewPCG(8, 2))
	for range 3000 {
		literals, distances := drawn(rnd, 257+rnd.IntN(30)), drawn(rnd, 1+rnd.IntN(30))
		literals[256] = rnd.IntN(16)
		checkPut(t, rnd.IntN(65), literals, distances)
	}
}

// TestPutOfSteepWeights: items of such weights would have longer codes than seven bits.
func TestPutOfSteepWeights(t *testing.T) {
	var l []int
	for x, n := range []int{2, 3, 5, 8, 13, 21, 34, 55, 89} {
		l = append(l, same(n, x+2)...)
	}
	var turns []int // so that no item tells one again
	for i := range len(l) / 2 {
		turns = append(turns, l[i], l[len(l)/2+i])
	}
	literals := all(turns[:100], same(27, 0), turns[100:])
	var weights [19]int
	for _, x := range plainPress(append(slices.Clone(literals), 1)) {
		weights[x.S]++
	}
	if longest := slices.Max(huff.Lengths(15, weights[:]...)); longest != 10 {
		t.Fatalf("of such weights codes have %d bits at most", longest)
	}
	checkPut(t, 0, literals, []int{1})
}

// whole is a code of all items.
var whole = []int{4, 4, 4, 4, 5, 5, 5, 5, 5, 5, 5, 5, 5, 5, 5, 5, 3, 3, 3}

// TestGetOfOtherChoices reads lengths that were told in other ways than Put tells them.
func TestGetOfOtherChoices(t *testing.T) {
	if !huff.Right(whole) {
		t.Fatal("there is no such code")
	}
	once := func(l []int) []codes.Item {
		var items []codes.Item
		for _, x := range l {
			items = append(items, item(x))
		}
		return items
	}
	zeros3 := func(n int) []codes.Item { return slices.Repeat([]codes.Item{zeros(3)}, n) }
	end := all(same(256, 0), []int{1})
	for _, c := range []struct {
		name                string
		literals, distances []int
		items               []codes.Item
	}{
		{"each length once", all(same(256, 8), []int{7, 7, 7, 7, 7}), []int{5, 5, 5, 5}, once(all(same(256, 8), same(5, 7), same(4, 5)))},
		{"0s once", end, same(4, 0), once(all(end, same(4, 0)))},
		{"0s by three", end, []int{2}, append(zeros3(85), item(0), item(1), item(2))},
		{"0s as 0 ahead of a 0", end, []int{2}, append([]codes.Item{item(0), ahead(6), ahead(6), ahead(3), zeros(138), zeros(102)}, item(1), item(2))},
		{"0s as what is ahead of 17", end, []int{2}, []codes.Item{zeros(3), ahead(6), zeros(138), zeros(109), item(1), item(2)}},
		{"0s as what is ahead of 18", end, []int{2}, []codes.Item{zeros(138), ahead(6), zeros(112), item(1), item(2)}},
		{"a row cut otherwise", all(same(256, 3), []int{3}), []int{3, 1}, slices.Concat([]codes.Item{item(3)}, slices.Repeat([]codes.Item{ahead(4)}, 64), []codes.Item{item(3), item(1)})},
		{"16 from symbols into distances", all(end, []int{6, 6}), []int{6, 6, 6, 6, 2}, []codes.Item{zeros(138), zeros(118), item(1), item(6), ahead(5), item(2)}},
		{"16 from symbols, all in distances", all(end, []int{6}), []int{6, 6, 6}, []codes.Item{zeros(138), zeros(118), item(1), item(6), ahead(3)}},
		{"17 from symbols into distances", all(end, same(2, 0)), []int{0, 0, 0, 2}, []codes.Item{zeros(138), zeros(118), item(1), zeros(5), item(2)}},
		{"18 from symbols into distances, 0s at the ends", all(end, same(29, 0)), same(30, 0), []codes.Item{zeros(138), zeros(118), item(1), zeros(59)}},
		{"16 to the end, from the end on", end, same(6, 1), []codes.Item{zeros(138), zeros(118), item(1), ahead(6)}},
	} {
		digits := told(len(c.literals)-257, len(c.distances)-1, whole, c.items...)
		for _, behind := range []string{"", "1", "0110"} {
			r := reader(digits + behind)
			a, b, ok := codes.Get(r)
			if !ok || !slices.Equal(a, c.literals) || !slices.Equal(b, c.distances) || r.Left() != len(behind) {
				t.Errorf("%s: Get = %v, %v, %v, %d bits left", c.name, a, b, ok, r.Left())
			}
		}
		checkGet(t, c.name, digits)
	}
}

// TestGetOfWhatIsNone holds what Get refuses, and what is just not refused beside it.
func TestGetOfWhatIsNone(t *testing.T) {
	code := func(lengths map[int]int) []int {
		l := make([]int, 19)
		for s, n := range lengths {
			l[s] = n
		}
		return l
	}
	start := []codes.Item{zeros(138), zeros(118)}
	with := func(l ...codes.Item) []codes.Item { return slices.Concat(start, l) }
	oneAlone := code(map[int]int{1: 1})
	ones := slices.Repeat([]codes.Item{item(1)}, 258)
	for _, c := range []struct {
		name   string
		digits string
		want   bool
	}{
		{"the most lengths", told(29, 29, whole, with(item(1), zeros(59))...), true},
		{"287 lengths of symbols", told(30, 0, whole, with(item(1), zeros(31))...), false},
		{"288 lengths of symbols", told(31, 0, whole, with(item(1), zeros(32))...), false},
		{"31 lengths of distances", told(0, 30, whole, with(item(1), zeros(31))...), false},
		{"32 lengths of distances", told(0, 31, whole, with(item(1), zeros(32))...), false},
		{"both", told(31, 31, whole, with(item(1), zeros(63))...), false},
		{"no item has a code", told(0, 0, code(nil)) + strings.Repeat("0", 300), false},
		{"one item alone, of one bit", told(0, 0, oneAlone, ones...), true},
		{"one item alone, a bit that tells none", told(0, 0, oneAlone, ones[:257]...) + "1" + strings.Repeat("0", 30), false},
		{"one item alone, ones", told(0, 0, oneAlone) + strings.Repeat("1", 600), false},
		{"one item alone, of two bits", told(0, 0, code(map[int]int{1: 2})) + strings.Repeat("0", 600), false},
		{"codes that leave something over", told(0, 0, code(map[int]int{1: 2, 18: 1})) + strings.Repeat("0", 600), false},
		{"codes with more bits than there are", told(0, 0, code(map[int]int{1: 1, 0: 1, 18: 1})) + strings.Repeat("0", 600), false},
		{"codes up to seven bits", told(0, 0, code(map[int]int{1: 1, 2: 2, 3: 3, 4: 4, 5: 5, 6: 6, 7: 7, 18: 7}), with(item(7), item(6))...), true},
		{"16 first of all", told(0, 0, whole, slices.Concat([]codes.Item{ahead(3)}, start, []codes.Item{item(1), item(1)})...), false},
		{"16 second", told(0, 0, whole, item(0), ahead(3), zeros(138), zeros(114), item(1), item(1)), true},
		{"just as many as there are, by 16", told(0, 5, whole, with(item(1), ahead(6))...), true},
		{"one more, by 16", told(0, 4, whole, with(item(1), ahead(6))...), false},
		{"just as many, by 17", told(0, 9, whole, with(item(1), zeros(10))...), true},
		{"one more, by 17", told(0, 8, whole, with(item(1), zeros(10))...), false},
		{"just as many, by 18", told(0, 10, whole, with(item(1), zeros(11))...), true},
		{"one more, by 18", told(0, 9, whole, with(item(1), zeros(11))...), false},
		{"many more, by 18", told(0, 0, whole, with(item(1), zeros(138))...), false},
		{"the end of no length", told(0, 0, whole, with(item(0), item(1))...), false},
		{"the end of no length, by 18", told(29, 29, whole, zeros(138), zeros(138), zeros(40)), false},
		{"the end of the longest length", told(0, 0, whole, with(item(15), item(0))...), true},
		{"no bits", "", false},
		{"ones", strings.Repeat("1", 1000), false},
		{"0s", strings.Repeat("0", 1000), false},
	} {
		r := reader(c.digits)
		a, b, ok := codes.Get(r)
		if ok != c.want || !ok && (a != nil || b != nil) {
			t.Errorf("%s: Get = %v, %v, %v", c.name, a, b, ok)
		}
		checkGet(t, c.name, c.digits)
	}
}

// TestGetOfFewItems: as few as four lengths of items may be told, with codes of just these.
func TestGetOfFewItems(t *testing.T) {
	lengths := "110" + "110" + "110" + "100" // 16, 17, 18 of three bits, 0 of one: that leaves something over
	checkGet(t, "that leaves something over", low(5, 0)+low(5, 0)+low(4, 0)+lengths+strings.Repeat("0", 300))
	lengths = "000" + "000" + "100" + "000" + "000" + "100" // 18, and 7
	l := make([]int, 19)
	l[18], l[7] = 1, 1
	code := texts(l)
	digits := low(5, 0) + low(5, 1) + low(4, 2) + lengths + code[18] + low(7, 127) + code[18] + low(7, 107) + strings.Repeat(code[7], 3)
	a, b, ok := codes.Get(reader(digits))
	if !ok || !slices.Equal(a, all(same(256, 0), []int{7})) || !slices.Equal(b, []int{7, 7}) {
		t.Errorf("Get of six items' lengths = %v, %v, %v", a, b, ok)
	}
	checkGet(t, "six items' lengths", digits)
}

// TestGetOfWhatEnds cuts at each bit, and at whole bytes.
func TestGetOfWhatEnds(t *testing.T) {
	for _, c := range [][2][]int{
		{all(same(256, 0), []int{1}), {1}},
		{all(same(144, 8), same(112, 9), same(24, 7), same(6, 8)), same(30, 5)},
		{drawn(rand.New(rand.NewPCG(8, 3)), 256), drawn(rand.New(rand.NewPCG(8, 4)), 30)},
	} {
		literals := append(slices.Clone(c[0]), 3)[:max(len(c[0]), 257)]
		digits := plainPut(literals, c[1])
		for n := range digits {
			if checkGet(t, "what ends", digits[:n]) {
				t.Fatalf("Get of %d bits of %d is true", n, len(digits))
			}
		}
		if !checkGet(t, "what is whole", digits) {
			t.Fatal("Get of all bits is false")
		}
		var w bits.Writer
		codes.Put(&w, literals, c[1])
		for n := range w.Bytes() {
			if _, _, ok := codes.Get(bits.New(w.Bytes()[:n])); ok {
				t.Fatalf("Get of %d bytes of %d is true", n, len(w.Bytes()))
			}
		}
	}
}

// TestGetOfOtherBits turns bits of what was put, and draws some.
func TestGetOfOtherBits(t *testing.T) {
	rnd := rand.New(rand.NewPCG(8, 5))
	read, refused := 0, 0
	count := func(ok bool) {
		if ok {
			read++
		} else {
			refused++
		}
	}
	for range 300 {
		literals := drawn(rnd, 257+rnd.IntN(30))
		literals[256] = 1 + rnd.IntN(15)
		digits := []byte(plainPut(literals, drawn(rnd, 1+rnd.IntN(30))) + low(40, rnd.Uint64()))
		for range 30 {
			at := rnd.IntN(len(digits))
			if rnd.IntN(2) == 0 {
				at = rnd.IntN(min(len(digits), 14+19*3))
			}
			digits[at] ^= 1
			count(checkGet(t, "a bit turned", string(digits)))
			if rnd.IntN(4) > 0 {
				digits[at] ^= 1
			}
		}
	}
	for range 3000 { // codes as they should be, with any bits behind them
		digits := told(rnd.IntN(32), rnd.IntN(32), whole)
		for range 30 {
			digits += low(64, rnd.Uint64())
		}
		count(checkGet(t, "drawn bits", digits))
	}
	if read < 300 || refused < 300 {
		t.Errorf("%d were read, %d refused: too few to tell", read, refused)
	}
}

// TestGetRefusedChangesNothing: whoever was refused reads on where the reader stood.
func TestGetRefusedChangesNothing(t *testing.T) {
	b := []byte{0xa5, 0xff, 0x3c, 0x12, 0x99, 0x81, 0x42, 0x24, 0x18}
	for n := range 9 * 8 {
		r, other := bits.New(b), bits.New(b)
		r.Bits(min(n, 64))
		other.Bits(min(n, 64))
		for range 3 {
			if _, _, ok := codes.Get(r); ok {
				t.Fatalf("Get from the bit %d on is true", n)
			}
		}
		if r.At() != other.At() || r.Left() != other.Left() {
			t.Fatalf("refused from %d on, it stands at %d", other.At(), r.At())
		}
		x, _ := r.Bits(5)
		if y, _ := other.Bits(5); x != y {
			t.Fatalf("refused, it reads %d; want %d", x, y)
		}
	}
}

// block answers a text as a block of the dynamic kind, and what is in it.
func block(text []byte) []byte {
	tokens := lz.Press(text)
	ofLiterals, ofDistances := syms.Weights(tokens...)
	literals, distances := huff.Lengths(15, ofLiterals...), huff.Lengths(15, ofDistances...)
	a, b := huff.Codes(literals), huff.Codes(distances)
	var w bits.Writer
	w.Put(1, 1)
	w.Put(2, 2)
	codes.Put(&w, literals, distances)
	for _, x := range tokens {
		if x.Length == 0 {
			w.Code(literals[x.Byte], a[x.Byte])
			continue
		}
		n, d := syms.Length(x.Length), syms.Distance(x.Distance)
		w.Code(literals[n.S], a[n.S])
		w.Put(n.Bits, n.Extra)
		w.Code(distances[d.S], b[d.S])
		w.Put(d.Bits, d.Extra)
	}
	w.Code(literals[256], a[256])
	return w.Bytes()
}

// someTexts answers texts of few and many letters, with and without matches.
func someTexts() [][]byte {
	rnd := rand.New(rand.NewPCG(8, 6))
	l := [][]byte{nil, []byte("a"), []byte("abc"), []byte("aaaaaaaaaa"), []byte(strings.Repeat("histories of changes, ", 40))}
	for _, letters := range []int{2, 5, 30, 100, 256} {
		text := make([]byte, 3000)
		for i := range text {
			text[i] = byte(min(rnd.IntN(letters), rnd.IntN(letters)))
		}
		l = append(l, text)
	}
	return l
}

// TestOthersReadWhatIsPut: Go's library opens a block whose lengths were put.
func TestOthersReadWhatIsPut(t *testing.T) {
	for _, text := range someTexts() {
		b, err := io.ReadAll(flate.NewReader(bytes.NewReader(block(text))))
		if err != nil || !bytes.Equal(b, text) {
			t.Errorf("%d bytes become %d bytes, %v", len(text), len(b), err)
		}
	}
}

// TestWhatOthersPutIsRead: what Go's library presses is a block whose lengths are read.
func TestWhatOthersPutIsRead(t *testing.T) {
	read := 0
	for _, text := range someTexts() {
		for _, level := range []int{flate.BestSpeed, flate.DefaultCompression, flate.BestCompression, flate.HuffmanOnly} {
			var pressed bytes.Buffer
			w, _ := flate.NewWriter(&pressed, level)
			w.Write(text)
			w.Close()
			r := bits.New(pressed.Bytes())
			r.Bits(1)
			if kind, _ := r.Bits(2); kind != 2 {
				continue
			}
			read++
			if b := open(t, r); !bytes.Equal(b, text) {
				t.Errorf("level %d: %d bytes become %d bytes", level, len(text), len(b))
			}
		}
	}
	if read < 10 {
		t.Errorf("%d blocks alone were of the dynamic kind", read)
	}
}

// open answers what a block of the dynamic kind tells.
func open(t *testing.T, r *bits.Reader) []byte {
	t.Helper()
	literals, distances, ok := codes.Get(r)
	a, okA := huff.New(literals)
	if !ok || !okA {
		t.Fatalf("Get = %v, %v, %v", literals, distances, ok)
	}
	b, _ := huff.New(distances)
	var text []byte
	for {
		s, ok := a.Next(r)
		if !ok {
			t.Fatal("no symbol is told")
		}
		if s == 256 {
			return text
		}
		if s < 256 {
			text = append(text, byte(s))
			continue
		}
		length, n, _ := syms.LengthOf(s)
		x, _ := r.Bits(n)
		s, _ = b.Next(r)
		distance, n, _ := syms.DistanceOf(s)
		y, _ := r.Bits(n)
		for range length + int(x) {
			text = append(text, text[len(text)-distance-int(y)])
		}
	}
}

// TestWhatIsHandedIn isn't changed, spare room included, and isn't kept.
func TestWhatIsHandedIn(t *testing.T) {
	room := all(same(256, 0), []int{2, 0, 0}, same(60, 7))
	far := all([]int{3, 3, 0, 0}, same(60, 9))
	keptRoom, keptFar := slices.Clone(room), slices.Clone(far)
	var w bits.Writer
	for _, n := range []int{257, 258, 259, 286} {
		codes.Put(&w, room[:n], far[:4])
		codes.Put(&w, room[:n], far[:2])
		codes.Press(room[:n])
	}
	codes.Put(&w, room[:259], room[255:257]) // lists that share memory
	if !slices.Equal(room, keptRoom) || !slices.Equal(far, keptFar) {
		t.Errorf("what was handed in became %v, %v", room, far)
	}
	before := w.Bytes()
	clear(room)
	clear(far)
	if !bytes.Equal(w.Bytes(), before) {
		t.Error("what was handed in is kept")
	}
}

// TestWhatIsHandedOut is new memory.
func TestWhatIsHandedOut(t *testing.T) {
	l := []int{5, 5, 5, 5, 0}
	first, second := codes.Press(l), codes.Press(l)
	for i := range first[:cap(first)] {
		first[:cap(first)][i] = codes.Item{S: 9, Bits: 9, Extra: 9}
	}
	want := []codes.Item{item(5), ahead(3), item(0)}
	if !slices.Equal(second, want) || !slices.Equal(codes.Press(l), want) || !slices.Equal(l, []int{5, 5, 5, 5, 0}) {
		t.Error("Press shares memory")
	}
	literals, distances := all(same(256, 8), []int{3, 4}), []int{2, 1, 2}
	digits := plainPut(literals, distances)
	a, b, _ := codes.Get(reader(digits))
	c, d, _ := codes.Get(reader(digits))
	wipe(a)
	if !slices.Equal(b, distances) {
		t.Errorf("writing on symbols makes distances %v", b)
	}
	a = append(c, 99)
	if !slices.Equal(d, distances) || a[258] != 99 {
		t.Errorf("what is added to symbols stands on distances: %v", d)
	}
	wipe(d)
	if !slices.Equal(c, literals) {
		t.Errorf("writing on distances makes symbols %v", c)
	}
	if a, b, ok := codes.Get(reader(digits)); !ok || !slices.Equal(a, literals) || !slices.Equal(b, distances) {
		t.Error("Get shares memory")
	}
}

// wipe writes all over a list, spare room included.
func wipe(l []int) {
	l = l[:cap(l)]
	for i := range l {
		l[i] = 77
	}
}

// TestWhatIsNotTold: nothing is promised of these, but that each call ends.
func TestWhatIsNotTold(t *testing.T) {
	lists := [][]int{nil, {0}, {1}, {-1}, {16}, {19, 19, 19, 19, 19}, {math.MinInt, math.MaxInt}, same(4, math.MinInt), same(256, 1), same(257, 1), same(257, 16), same(257, 19), same(257, -1), same(287, 1), same(288, 1), same(289, 5), same(1000, 0), same(1000, 3), same(30, 16), same(30, 5), same(31, 5), same(33, 0), append(same(29, 3), math.MaxInt)}
	for _, a := range lists {
		codes.Press(a)
		for _, b := range lists {
			var w bits.Writer
			w.Put(3, 5)
			codes.Put(&w, a, b)
		}
	}
}
