package delta_test

import (
	"math"
	"math/big"
	"math/rand/v2"
	"slices"
	"strconv"
	"strings"
	"testing"

	"inkwell/api"
	"inkwell/delta"
	"inkwell/rle"
)

// cells answers the column that a text tells: numbers, and - for nothing.
func cells(s string) []api.Cell {
	var l []api.Cell
	for _, x := range strings.Fields(s) {
		if x == "-" {
			l = append(l, api.Cell{})
			continue
		}
		n, err := strconv.ParseInt(x, 10, 64)
		if err != nil {
			panic(err)
		}
		l = append(l, api.Cell{Is: true, N: n})
	}
	return l
}

// left answers what is left of a number by 2^64, with a sign.
func left(n *big.Int) int64 {
	half := new(big.Int).Lsh(big.NewInt(1), 63)
	n = new(big.Int).Add(n, half)
	n.Mod(n, new(big.Int).Lsh(half, 1)) // 0 or more, whatever n's sign
	return n.Sub(n, half).Int64()
}

// lastAhead answers the last number ahead of a place, 0 if there is none.
func lastAhead(l []api.Cell, at int) int64 {
	for at--; at >= 0; at-- {
		if l[at].Is {
			return l[at].N
		}
	}
	return 0
}

// plainDifferences answers a column's differences by the chapter's words, with numbers of any size.
func plainDifferences(l []api.Cell) []api.Cell {
	var d []api.Cell
	for i, c := range l {
		if c.Is {
			c.N = left(new(big.Int).Sub(big.NewInt(c.N), big.NewInt(lastAhead(l, i))))
		}
		d = append(d, c)
	}
	return d
}

// plainSums answers the column that has these differences, with numbers of any size.
func plainSums(d []api.Cell) []api.Cell {
	var l []api.Cell
	for i, c := range d {
		if c.Is {
			c.N = left(new(big.Int).Add(big.NewInt(c.N), big.NewInt(lastAhead(l, i))))
		}
		l = append(l, c)
	}
	return l
}

// gets tells a test that bytes aren't read as they should be; bytes behind them, in spare room, count for nothing.
func gets(t *testing.T, s string, most int, want []api.Cell, e api.Errno) {
	t.Helper()
	b := append([]byte(s), 0, 0, 0)
	if l, x := delta.Get(b[:len(s)], most); x != e || !slices.Equal(l, want) {
		t.Errorf("Get(%x, %d) = %v, %d; want %v, %d", s, most, l, x, want, e)
	}
}

// both tells a test that a column hasn't such bytes, or that it isn't read from them, at just as many cells as it has, and at more.
func both(t *testing.T, l []api.Cell, s string) {
	t.Helper()
	if b := string(delta.Put(l...)); b != s {
		t.Errorf("Put(%v) = %x; want %x", l, b, s)
	}
	if s == "" {
		l = nil
	}
	for _, most := range []int{len(l), len(l) + 1, math.MaxInt} {
		gets(t, s, most, l, api.OK)
	}
	for _, most := range []int{len(l) - 1, len(l) / 2, 0} {
		if s != "" && most < len(l) {
			gets(t, s, most, nil, api.ErrLong)
		}
	}
}

// greatS is 2^63 - 1, and leastS is -2^63, as layer 2 tells a number with a sign.
var (
	greatS = strings.Repeat("\xff", 9) + "\x00"
	leastS = strings.Repeat("\x80", 9) + "\x7f"
)

func TestColumns(t *testing.T) {
	for _, c := range []struct{ l, s string }{
		{"5 6 7", "\x7f\x05\x02\x01"}, // the chapter's example
		{"", ""},
		{"-", ""},
		{"- - - -", ""},
		{"0", "\x7f\x00"},
		{"0 0", "\x02\x00"},
		{"0 0 0", "\x03\x00"},
		{"7", "\x7f\x07"},
		{"7 7", "\x7e\x07\x00"},
		{"7 7 7", "\x7f\x07\x02\x00"},
		{"1 2", "\x02\x01"},
		{"1 2 3 4 5", "\x05\x01"},
		{"-1 -2 -3", "\x03\x7f"},
		{"3 6 9 8 7", "\x03\x03\x02\x7f"},
		{"5 4", "\x7e\x05\x7f"},
		{"1 0 1 0", "\x7c\x01\x7f\x01\x7f"},
		{"1 3 6 10", "\x7c\x01\x02\x03\x04"},
		{"-1", "\x7f\x7f"},
		{"63", "\x7f\x3f"},
		{"64", "\x7f\xc0\x00"},
		{"-64", "\x7f\x40"},
		{"-65", "\x7f\xbf\x7f"},
		{"1000 1001", "\x7e\xe8\x07\x01"},
		{"9007199254740991 9007199254740990", "\x7e\xff\xff\xff\xff\xff\xff\xff\x0f\x7f"},
	} {
		both(t, cells(c.l), c.s)
	}
}

// TestNothing holds that a cell that is nothing leaves the last number as it was.
func TestNothing(t *testing.T) {
	for _, c := range []struct{ l, s string }{
		{"- 5", "\x00\x01\x7f\x05"},
		{"5 -", "\x7f\x05\x00\x01"},
		{"5 - 5", "\x7f\x05\x00\x01\x7f\x00"},
		{"5 - 6", "\x7f\x05\x00\x01\x7f\x01"},
		{"5 - - - 6 7", "\x7f\x05\x00\x03\x02\x01"},
		{"5 - 10", "\x7f\x05\x00\x01\x7f\x05"},
		{"10 - 10 8", "\x7f\x0a\x00\x01\x7e\x00\x7e"},
		{"- - -3 - - -2 - -", "\x00\x02\x7f\x7d\x00\x02\x7f\x01\x00\x02"},
		{"- 0 - 0 -", "\x00\x01\x7f\x00\x00\x01\x7f\x00\x00\x01"},
		{"1 - 2 - 3", "\x7f\x01\x00\x01\x7f\x01\x00\x01\x7f\x01"},
	} {
		both(t, cells(c.l), c.s)
	}
}

// TestWrapRound holds differences that 64 bits can't hold, and those that they just can.
func TestWrapRound(t *testing.T) {
	for _, c := range []struct{ l, s string }{
		{"9223372036854775807", "\x7f" + greatS},
		{"-9223372036854775808", "\x7f" + leastS},
		{"9223372036854775807 -9223372036854775808", "\x7e" + greatS + "\x01"},
		{"-9223372036854775808 9223372036854775807", "\x7e" + leastS + "\x7f"},
		{"9223372036854775807 -1", "\x7e" + greatS + leastS},
		{"9223372036854775807 -2", "\x02" + greatS},
		{"-1 9223372036854775807", "\x7e\x7f" + leastS},
		{"-2 9223372036854775807", "\x7e\x7e\x81" + strings.Repeat("\x80", 8) + "\x7f"},
		{"1 -9223372036854775807", "\x7e\x01" + leastS},
		{"1 -9223372036854775808", "\x7e\x01" + greatS},
		{"0 -9223372036854775808", "\x7e\x00" + leastS},
		{"-9223372036854775808 0", "\x02" + leastS},
		{"-9223372036854775808 - 0 - -9223372036854775808", "\x7f" + leastS + "\x00\x01\x7f" + leastS + "\x00\x01\x7f" + leastS},
		{"4611686018427387904 -9223372036854775808 -4611686018427387904 0", "\x04\x80\x80\x80\x80\x80\x80\x80\x80\xc0\x00"},
	} {
		both(t, cells(c.l), c.s)
	}
}

// TestLongRuns holds long columns that few bytes tell.
func TestLongRuns(t *testing.T) {
	for _, n := range []int{63, 64, 8191, 8192, 1 << 20} {
		for _, step := range []int64{1, -1, 0, 1 << 62} {
			l := make([]api.Cell, n)
			for i := range l {
				l[i] = api.Cell{Is: true, N: step * int64(i+1)}
			}
			want := rle.PutS(slices.Repeat([]api.Cell{{Is: true, N: step}}, n)...)
			if b := delta.Put(l...); string(b) != string(want) {
				t.Errorf("Put of %d steps of %d: %.20x; want %x", n, step, b, want)
			}
			if got, e := delta.Get(want, n); e != api.OK || !slices.Equal(got, l) {
				t.Errorf("Get of %d steps of %d: %d cells, %d", n, step, len(got), e)
			}
			if got, e := delta.Get(want, n-1); e != api.ErrLong || len(got) != 0 {
				t.Errorf("Get of %d steps of %d, one cell fewer: %d cells, %d", n, step, len(got), e)
			}
		}
	}
}

// columns answers all columns of so many cells at most, of some cells.
func columns[C any](some []C, most int) [][]C {
	all := [][]C{nil}
	for ahead := all; most > 0; most-- {
		var longer [][]C
		for _, l := range ahead {
			for _, c := range some {
				longer = append(longer, append(slices.Clone(l), c))
			}
		}
		all = append(all, longer...)
		ahead = longer
	}
	return all
}

// TestAllShortColumns holds that columns have the bytes of their differences, and one form alone.
func TestAllShortColumns(t *testing.T) {
	for _, some := range []string{"- 0 1 2 3", "- 0 -1 64 5", "- -9223372036854775808 9223372036854775807 0 -1"} {
		forms := map[string]bool{"": true}
		for _, l := range columns(cells(some), 6) {
			s := string(rle.PutS(plainDifferences(l)...))
			both(t, l, s)
			if s != "" && forms[s] {
				t.Errorf("two columns have the bytes %x", s)
			}
			forms[s] = true
			if t.Failed() {
				return
			}
		}
	}
}

// TestDrawnColumns holds drawn columns, and what becomes of their bytes when they are cut or changed.
func TestDrawnColumns(t *testing.T) {
	rnd := rand.New(rand.NewPCG(12, 1))
	some := cells("- - 0 1 2 3 -1 63 64 -64 -65 300 9007199254740991 -9223372036854775808 9223372036854775807")
	for range 2000 {
		l := make([]api.Cell, rnd.IntN(120))
		for i := range l {
			switch rnd.IntN(4) {
			case 0:
				l[i] = some[rnd.IntN(len(some))]
			case 1:
				l[i] = api.Cell{Is: true, N: int64(rnd.Uint64())}
			default:
				l[i] = api.Cell{Is: true, N: lastAhead(l, i) + 1}
			}
		}
		s := string(rle.PutS(plainDifferences(l)...))
		both(t, l, s)
		for range 10 {
			b := []byte(s[:rnd.IntN(len(s)+1)])
			for range rnd.IntN(3) {
				if len(b) > 0 {
					b[rnd.IntN(len(b))] = byte(rnd.IntN(256))
				}
			}
			most := rnd.IntN(200) - 1
			d, e := rle.GetS(b, most)
			gets(t, string(b), most, plainSums(d), e)
		}
		if t.Failed() {
			return
		}
	}
}

// TestNoOtherBytesAreRead goes through all bytes of some letters: just those of a column are read, as that column.
func TestNoOtherBytesAreRead(t *testing.T) {
	// The cells are all that three differences of these letters can come to.
	differences := "- 0 1 2 3 -3 -2 -1"
	column := map[string][]api.Cell{"": nil}
	for _, d := range columns(cells(differences), 3) {
		l := plainSums(d)
		if s := string(delta.Put(l...)); s != "" {
			column[s] = l
		}
	}
	read := 0
	for _, b := range columns([]byte("\x00\x01\x02\x03\x7d\x7e\x7f"), 6) {
		want, ok := column[string(b)]
		l, e := delta.Get(b, 3)
		if ok != (e == api.OK) || !slices.Equal(l, want) {
			t.Fatalf("Get(%x, 3) = %v, %d; want %v", b, l, e, want)
		}
		if ok {
			read++
		}
	}
	if read != len(column) {
		t.Errorf("%d columns were read, of %d", read, len(column))
	}
}

// TestErrors holds each error, and which of several comes first, at most nine cells.
func TestErrors(t *testing.T) {
	for _, c := range []struct {
		name, s string
		e       api.Errno
	}{
		{"a run's number ends too soon", "\x80", api.ErrShort},
		{"a run's number in a longer form", "\x82\x00\x05", api.ErrForm},
		{"the number of nothing isn't there", "\x00", api.ErrShort},
		{"the number of nothing in a longer form", "\x00\x81\x00", api.ErrForm},
		{"a difference isn't there", "\x7f", api.ErrShort},
		{"a difference ends too soon", "\x7f\x80", api.ErrShort},
		{"a second difference ends too soon", "\x7e\x05\x85", api.ErrShort},
		{"a difference in a longer form", "\x7f\x85\x00", api.ErrForm},
		{"a difference below 0 in a longer form", "\x7f\xff\x7f", api.ErrForm},
		{"a difference of 2^63", "\x7f" + strings.Repeat("\x80", 9) + "\x01", api.ErrForm},
		{"a difference without an end", "\x7f" + strings.Repeat("\x80", 10), api.ErrForm},
		{"ten of nothing", "\x00\x0a", api.ErrLong},
		{"ten steps", "\x0a\x01", api.ErrLong},
		{"ten others, of which none is told", "\x76", api.ErrLong},
		{"nine, and one more", "\x7f\x05\x08\x01\x7f\x02", api.ErrLong},
		{"nothing alone", "\x00\x03", api.ErrForm},
		{"none of nothing", "\x00\x00", api.ErrForm},
		{"nothing in two", "\x7f\x05\x00\x01\x00\x01", api.ErrForm},
		{"a run of one", "\x01\x05", api.ErrForm},
		{"one and one of the same difference", "\x7f\x01\x7f\x01", api.ErrForm},
		{"others of the same difference", "\x7e\x01\x01", api.ErrForm},
		{"a run in two", "\x02\x01\x02\x01", api.ErrForm},
		{"others in two", "\x7f\x05\x7f\x06", api.ErrForm},
		{"a wrong form, and what ends too soon behind it", "\x01\x05\x02", api.ErrShort},
		{"a wrong form, and too much behind it", "\x01\x05\x09\x01", api.ErrLong},
		{"a difference in a longer form, and too much behind it", "\x7f\x85\x00\x0a\x05", api.ErrForm},
		{"too much, and a difference in a longer form behind it", "\x0a\x05\x7f\x85\x00", api.ErrLong},
	} {
		if l, e := delta.Get([]byte(c.s), 9); e != c.e || len(l) != 0 {
			t.Errorf("%s: %v, %d; want %d", c.name, l, e, c.e)
		}
	}
}

// TestMost holds how many cells there may be, at its edges: as GetS has it.
func TestMost(t *testing.T) {
	for _, most := range []int{math.MinInt, -1, 0, 1, 2, math.MaxInt} {
		for _, s := range []string{"", "\x7f\x05", "\x02\x05", "\x01\x05", "\x00\x01", "\x00\x00", "\x7f", "\x80", "\x7f\x05\x00\x00", "\x7f\x05\x00\x01"} {
			d, e := rle.GetS([]byte(s), most)
			gets(t, s, most, plainSums(d), e)
		}
	}
	// Few bytes that tell very many cells, and aren't a column's at last.
	gets(t, "\x00"+strings.Repeat("\xff", 8)+"\x7f", math.MaxInt, nil, api.ErrForm)
	gets(t, greatS, math.MaxInt, nil, api.ErrShort)
	gets(t, "\x7f\x05"+greatS+"\x06", math.MaxInt, nil, api.ErrLong)
}

// TestWhatMayNotBe hands in columns of which nothing is promised, but that the call ends.
func TestWhatMayNotBe(t *testing.T) {
	for _, l := range [][]api.Cell{{{N: 5}}, {{N: 5}, {}, {N: -5}}, {{Is: true, N: 1}, {N: math.MinInt64}, {Is: true, N: 2}}} {
		delta.Put(l...)
	}
}

// fill fills a list's spare room, too.
func fill[T any](l []T, x T) {
	for i := range l[:cap(l)] {
		l[:cap(l)][i] = x
	}
}

// TestMemory holds that what is handed in isn't changed or kept, spare room included, and that answers share no memory.
func TestMemory(t *testing.T) {
	other := api.Cell{Is: true, N: 99}
	for _, text := range []string{"5 6 7", "5 - 5 -3", "- - 1 2 -", "0"} {
		want := cells(text)
		room := append(slices.Clone(want), other, other)
		first := delta.Put(room[:len(want)]...)
		s := string(first)
		fill(delta.Put(want...), 99)
		if string(first) != s || !slices.Equal(room, append(slices.Clone(want), other, other)) {
			t.Errorf("Put(%v): the answer became %x, what was handed in %v", want, first, room)
		}
		given := append([]byte(s), "\x63\x63"...)
		l, _ := delta.Get(given[:len(s)], len(want))
		again, _ := delta.Get(given[:len(s)], len(want))
		if string(given) != s+"\x63\x63" {
			t.Errorf("Get(%x) made %x of what was handed in", s, given)
		}
		fill(again, other)
		fill(given, 98)
		if !slices.Equal(l, want) {
			t.Errorf("Get(%x): the answer became %v", s, l)
		}
	}
}
