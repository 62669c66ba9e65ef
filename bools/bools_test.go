package bools_test

import (
	"math"
	"math/big"
	"math/rand/v2"
	"slices"
	"strings"
	"testing"

	"inkwell/api"
	"inkwell/bools"
	"inkwell/leb"
)

// truths answers the column that a text tells: t for a true, f for a false.
func truths(s string) []bool {
	var l []bool
	for _, x := range s {
		l = append(l, x == 't')
	}
	return l
}

// text answers the text that tells a column.
func text(l []bool) string {
	var s strings.Builder
	for _, x := range l {
		if x {
			s.WriteByte('t')
		} else {
			s.WriteByte('f')
		}
	}
	return s.String()
}

// brief answers a text's beginning, and its end.
func brief(s string) string {
	if len(s) <= 60 {
		return s
	}
	return s[:30] + ".." + s[len(s)-30:]
}

// plainPut answers a column's bytes by the chapter's words: what stands at its beginning is taken away, piece by piece, a false and a true one in turn.
func plainPut(s string) string {
	if !strings.Contains(s, "t") {
		return ""
	}
	var b []byte
	for turn := "f"; s != ""; {
		rest := strings.TrimLeft(s, turn)
		b = append(b, leb.U(uint64(len(s)-len(rest)))...)
		s = rest
		turn = map[string]string{"f": "t", "t": "f"}[turn]
	}
	return string(b)
}

// plainGet answers what bytes tell by the chapter's words, with numbers of any size: they are a column's just if the column that they tell has these bytes. At most so many truths are told, so it is for small numbers of them alone.
func plainGet(s string, most int) (string, api.Errno) {
	var l strings.Builder
	count := new(big.Int)
	turn := "f"
	for b := []byte(s); len(b) > 0; {
		n, k, e := leb.GetU(b)
		if e != api.OK {
			return "", e
		}
		count.Add(count, new(big.Int).SetUint64(n))
		if count.Cmp(big.NewInt(int64(most))) > 0 {
			return "", api.ErrLong
		}
		l.WriteString(strings.Repeat(turn, int(n)))
		b = b[k:]
		turn = map[string]string{"f": "t", "t": "f"}[turn]
	}
	if most < 0 || plainPut(l.String()) != s {
		return "", api.ErrForm
	}
	return l.String(), api.OK
}

// gets tells a test that bytes aren't read as they should be; bytes behind them, in spare room, count for nothing.
func gets(t *testing.T, s string, most int, want string, e api.Errno) {
	t.Helper()
	b := append([]byte(s), 0, 1, 2)
	if l, x := bools.Get(b[:len(s)], most); x != e || text(l) != want {
		t.Errorf("Get(%x, %d) = %s, %d; want %s, %d", brief(s), most, brief(text(l)), x, brief(want), e)
	}
}

// both tells a test that a column hasn't such bytes, or that it isn't read from them, at just as many truths as it has, and at more.
func both(t *testing.T, column, s string) {
	t.Helper()
	if b := string(bools.Put(truths(column)...)); b != s {
		t.Errorf("Put(%s) = %x; want %x", brief(column), brief(b), brief(s))
	}
	if s == "" {
		column = ""
	}
	for _, most := range []int{len(column), len(column) + 1, math.MaxInt} {
		gets(t, s, most, column, api.OK)
	}
	for _, most := range []int{len(column) - 1, len(column) / 2, 0} {
		if s != "" && most < len(column) {
			gets(t, s, most, "", api.ErrLong)
		}
	}
}

func TestColumns(t *testing.T) {
	for _, c := range []struct{ l, s string }{
		{"ttf", "\x00\x02\x01"}, // the chapter's example
		{"", ""},
		{"f", ""},
		{"ffff", ""},
		{"t", "\x00\x01"},
		{"ttt", "\x00\x03"},
		{"ft", "\x01\x01"},
		{"tf", "\x00\x01\x01"},
		{"fft", "\x02\x01"},
		{"fttf", "\x01\x02\x01"},
		{"tft", "\x00\x01\x01\x01"},
		{"ftf", "\x01\x01\x01"},
		{"ftft", "\x01\x01\x01\x01"},
		{"tttffttttf", "\x00\x03\x02\x04\x01"},
		{"ffffftttffffff", "\x05\x03\x06"},
	} {
		both(t, c.l, c.s)
	}
}

// TestLongRuns holds numbers of one byte, of more, and those beside them, at each place.
func TestLongRuns(t *testing.T) {
	for n, s := range map[int]string{
		127:     "\x7f",
		128:     "\x80\x01",
		300:     "\xac\x02",
		16383:   "\xff\x7f",
		16384:   "\x80\x80\x01",
		1 << 21: "\x80\x80\x80\x01",
	} {
		f, tr := strings.Repeat("f", n), strings.Repeat("t", n)
		both(t, f, "")
		both(t, tr, "\x00"+s)
		both(t, f+"t", s+"\x01")
		both(t, "t"+f, "\x00\x01"+s)
		both(t, "f"+tr+"f", "\x01"+s+"\x01")
		both(t, f+tr+f, s+s+s)
	}
}

// TestManyRuns holds a column of many numbers.
func TestManyRuns(t *testing.T) {
	const n = 1 << 19
	both(t, strings.Repeat("tf", n), "\x00"+strings.Repeat("\x01", 2*n))
	both(t, strings.Repeat("ftt", n), strings.Repeat("\x01\x02", n))
}

// lists answers all lists of so many items at most, of some items.
func lists[C any](some []C, most int) [][]C {
	all := [][]C{nil}
	for ahead := all; most > 0; most-- {
		var longer [][]C
		for _, l := range ahead {
			for _, c := range some {
				longer = append(longer, append(slices.Clone(l), c))
			}
		}
		all = append(all, longer...)
		ahead = longer
	}
	return all
}

// TestAllShortColumns holds that columns have their bytes, and one form alone.
func TestAllShortColumns(t *testing.T) {
	forms := map[string]bool{}
	for _, l := range lists([]byte("ft"), 14) {
		s := plainPut(string(l))
		both(t, string(l), s)
		if s != "" && forms[s] {
			t.Errorf("two columns have the bytes %x", s)
		}
		forms[s] = true
		if t.Failed() {
			return
		}
	}
}

// TestNoOtherBytesAreRead goes through all bytes of some letters: just those of a column are read, as that column.
func TestNoOtherBytesAreRead(t *testing.T) {
	column := map[string]string{"": ""}
	for _, l := range lists([]byte("ft"), 5) {
		if s := plainPut(string(l)); s != "" {
			column[s] = string(l)
		}
	}
	read := 0
	for _, b := range lists([]byte("\x00\x01\x02\x03\x04\x05\x80"), 6) {
		want, ok := column[string(b)]
		l, e := bools.Get(b, 5)
		if ok != (e == api.OK) || text(l) != want {
			t.Fatalf("Get(%x, 5) = %s, %d; want %s", b, text(l), e, want)
		}
		if ok {
			read++
		}
		for most := -1; most <= 9; most++ {
			want, e := plainGet(string(b), most)
			gets(t, string(b), most, want, e)
		}
		if t.Failed() {
			return
		}
	}
	if read != len(column) {
		t.Errorf("%d columns were read, of %d", read, len(column))
	}
}

// TestAllBytesOfTwo goes through all that one byte, and two, can be.
func TestAllBytesOfTwo(t *testing.T) {
	for x := range 256 {
		for y := range 256 {
			for _, s := range []string{string([]byte{byte(x)}), string([]byte{byte(x), byte(y)}), string([]byte{1, byte(x), byte(y)})} {
				for _, most := range []int{100, 300} {
					want, e := plainGet(s, most)
					gets(t, s, most, want, e)
				}
			}
		}
		if t.Failed() {
			return
		}
	}
}

// TestDrawnColumns holds drawn columns, and what becomes of their bytes when they are cut or changed.
func TestDrawnColumns(t *testing.T) {
	rnd := rand.New(rand.NewPCG(13, 1))
	for range 3000 {
		var l strings.Builder
		for range rnd.IntN(30) {
			n := rnd.IntN(4)
			if rnd.IntN(8) == 0 {
				n = rnd.IntN(400)
			}
			l.WriteString(strings.Repeat([]string{"f", "t"}[rnd.IntN(2)], n))
		}
		s := plainPut(l.String())
		both(t, l.String(), s)
		for range 10 {
			b := []byte(s[:rnd.IntN(len(s)+1)])
			for range rnd.IntN(3) {
				if len(b) > 0 {
					b[rnd.IntN(len(b))] = byte(rnd.IntN(256))
				}
			}
			most := rnd.IntN(2*l.Len()+2) - 1
			want, e := plainGet(string(b), most)
			gets(t, string(b), most, want, e)
		}
		if t.Failed() {
			return
		}
	}
}

// greatU is 2^64 - 1, greatS 2^63 - 1, and half 2^62, as layer 2 tells a number without a sign.
var (
	greatU = strings.Repeat("\xff", 9) + "\x01"
	greatS = strings.Repeat("\xff", 8) + "\x7f"
	half   = strings.Repeat("\x80", 8) + "\x40"
)

// TestErrors holds each error, and which of several comes first, at most nine truths.
func TestErrors(t *testing.T) {
	for _, c := range []struct {
		name, s string
		e       api.Errno
	}{
		{"the first number ends too soon", "\x80", api.ErrShort},
		{"a number behind it ends too soon", "\x01\x81", api.ErrShort},
		{"a third number ends too soon", "\x01\x01\x82\x83", api.ErrShort},
		{"a number in a longer form", "\x81\x00", api.ErrForm},
		{"none, in a longer form", "\x80\x00\x01", api.ErrForm},
		{"a number in a longer form, behind another one", "\x01\x81\x00", api.ErrForm},
		{"a number without an end", strings.Repeat("\x80", 10), api.ErrForm},
		{"nine bytes without an end", strings.Repeat("\x80", 9), api.ErrShort},
		{"2^64", strings.Repeat("\x80", 9) + "\x02", api.ErrForm},
		{"ten of false", "\x0a", api.ErrLong},
		{"ten of true", "\x00\x0a", api.ErrLong},
		{"ten in two", "\x05\x05", api.ErrLong},
		{"nine, and one more", "\x04\x05\x01", api.ErrLong},
		{"2^64 - 1 of false", greatU, api.ErrLong},
		{"2^64 - 1 behind one: no more, but for a number that wraps round", "\x01" + greatU, api.ErrLong},
		{"2^64 - 1 behind others", "\x01\x01" + greatU, api.ErrLong},
		{"2^63 - 1 of true", "\x00" + greatS, api.ErrLong},
		{"no false, and nothing else", "\x00", api.ErrForm},
		{"one false, and nothing else", "\x01", api.ErrForm},
		{"nine false, and nothing else", "\x09", api.ErrForm},
		{"no true at the end", "\x01\x00", api.ErrForm},
		{"none of both", "\x00\x00", api.ErrForm},
		{"no true between", "\x01\x00\x01\x01", api.ErrForm},
		{"no false between", "\x01\x01\x00\x01", api.ErrForm},
		{"no false at the end", "\x01\x01\x00", api.ErrForm},
		{"no true at the end, behind others", "\x00\x01\x01\x00", api.ErrForm},
		{"all nine, and a 0 behind them", "\x04\x05\x00", api.ErrForm},
		{"a 0 between, and what ends too soon behind it", "\x01\x00\x80", api.ErrShort},
		{"a 0 between, and too much behind it", "\x01\x00\x09", api.ErrLong},
		{"a number in a longer form, and too much behind it", "\x81\x00\x0a", api.ErrForm},
		{"too much, and a number in a longer form behind it", "\x0a\x81\x00", api.ErrLong},
		{"too much, and what ends too soon behind it", "\x0a\x80", api.ErrLong},
		{"what ends too soon, and would be too much", "\x09\xff", api.ErrShort},
		{"a longer form of too much", "\x8a\x00", api.ErrForm},
	} {
		if l, e := bools.Get([]byte(c.s), 9); e != c.e || len(l) != 0 {
			t.Errorf("%s: %s, %d; want %d", c.name, text(l), e, c.e)
		}
	}
}

// TestMost holds how many truths there may be, at its edges.
func TestMost(t *testing.T) {
	for _, c := range []struct {
		s    string
		most int
		want string
		e    api.Errno
	}{
		{"", 0, "", api.OK},
		{"", math.MaxInt, "", api.OK},
		{"", -1, "", api.ErrForm}, // no number is too many, and no truths are more than -1
		{"", math.MinInt, "", api.ErrForm},
		{"\x00", 0, "", api.ErrForm},
		{"\x00", -1, "", api.ErrLong},
		{"\x00", math.MinInt, "", api.ErrLong},
		{"\x80", -1, "", api.ErrShort},
		{"\x80\x00", -1, "", api.ErrForm},
		{"\x00\x01", 0, "", api.ErrLong},
		{"\x00\x01", 1, "t", api.OK},
		{"\x00\x01", math.MinInt, "", api.ErrLong},
		{"\x01", 0, "", api.ErrLong},
		{"\x01", 1, "", api.ErrForm},
		{"\x01\x01", 1, "", api.ErrLong},
		{"\x01\x01", 2, "ft", api.OK},
		{"\x00\x02\x01", 2, "", api.ErrLong},
		{"\x00\x02\x01", 3, "ttf", api.OK},
	} {
		gets(t, c.s, c.most, c.want, c.e)
	}
}

// TestVeryMany holds that few bytes that tell very many truths, and aren't a column's at last, are refused as others are.
func TestVeryMany(t *testing.T) {
	for _, c := range []struct {
		s string
		e api.Errno
	}{
		{greatS, api.ErrForm},
		{half + "\x00", api.ErrForm},
		{"\x00" + half + "\x00", api.ErrForm},
		{half + "\x80", api.ErrShort},
		{half + half, api.ErrLong},
		{greatS + "\x01", api.ErrLong},
		{"\x01" + greatS, api.ErrLong},
		{"\x01" + greatU, api.ErrLong},
		{greatU, api.ErrLong},
	} {
		gets(t, c.s, math.MaxInt, "", c.e)
	}
	// Of more truths than may be answered nothing is promised, but that the call ends.
	bools.Get([]byte(half+"\x01"), math.MaxInt)
}

// fill fills a list's spare room, too.
func fill[T any](l []T, x T) {
	for i := range l[:cap(l)] {
		l[:cap(l)][i] = x
	}
}

// TestMemory holds that what is handed in isn't changed or kept, spare room included, and that answers share no memory.
func TestMemory(t *testing.T) {
	for _, column := range []string{"ttf", "ftft", "t", "fffffft", "tttttttttttttttttf"} {
		room := truths(column + "tft")
		want := slices.Clone(room)
		first := bools.Put(room[:len(column)]...)
		s := string(first)
		fill(bools.Put(truths(column)...), 99)
		if string(first) != s || !slices.Equal(room, want) {
			t.Errorf("Put(%s): the answer became %x, what was handed in %s", column, first, text(room))
		}
		fill(room, false)
		if string(first) != s {
			t.Errorf("Put(%s): the answer became %x", column, first)
		}
		given := append([]byte(s), 99, 99)
		l, _ := bools.Get(given[:len(s)], len(column))
		again, _ := bools.Get(given[:len(s)], len(column))
		if string(given) != s+"\x63\x63" {
			t.Errorf("Get(%x) made %x of what was handed in", s, given)
		}
		for _, x := range []bool{false, true} {
			fill(again, x)
			fill(given, 98)
			if text(l) != column {
				t.Errorf("Get(%x): the answer became %s", s, text(l))
			}
		}
	}
}
