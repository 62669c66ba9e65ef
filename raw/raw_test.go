package raw_test

import (
	"fmt"
	"math"
	"math/rand/v2"
	"slices"
	"strings"
	"testing"
	"unicode/utf8"

	"inkwell/api"
	"inkwell/leb"
	"inkwell/raw"
	"inkwell/rle"
)

// brief answers what is told of anything, but its middle, if it is long.
func brief(x any) string {
	s := fmt.Sprintf("%#v", x)
	if len(s) <= 400 {
		return s
	}
	return strings.ToValidUTF8(s[:200]+" .. "+s[len(s)-200:], "") // a character may be cut in two
}

// told answers a value's bytes by chapter 14's words.
func told(v api.Value) string {
	switch v.Kind {
	case 3:
		return string(leb.U(v.U))
	case 4, 7, 8:
		return string(leb.S(v.N))
	case 5, 6:
		return v.S
	}
	return ""
}

// column answers the bytes of a column of cells that are told by their numbers, of which those below 0 stand for nothing.
func column(l ...int64) string {
	var cells []api.Cell
	for _, n := range l {
		if n < 0 {
			cells = append(cells, api.Cell{})
		} else {
			cells = append(cells, api.Cell{Is: true, N: n})
		}
	}
	return string(rle.Put(cells...))
}

// plainPut answers the bytes of both columns by the chapter's words.
func plainPut(l []api.Value) (string, string) {
	var numbers []int64
	var b strings.Builder
	for _, v := range l {
		n := int64(-1)
		if v.Kind != 0 {
			n = 16*int64(len(told(v))) + int64(v.Kind)
		}
		numbers = append(numbers, n)
		b.WriteString(told(v))
	}
	return column(numbers...), b.String()
}

// plainValue answers the value of a kind whose bytes s is, by chapter 14's words.
func plainValue(kind int64, s string) (api.Value, bool) {
	v := api.Value{Kind: int(kind)}
	switch kind {
	case 0, 1, 2:
		return v, s == ""
	case 3:
		n, k, e := leb.GetU([]byte(s))
		v.U = n
		return v, e == api.OK && k == len(s)
	case 4, 7, 8:
		n, k, e := leb.GetS([]byte(s))
		v.N = n
		return v, e == api.OK && k == len(s)
	case 5, 6:
		v.S = s
		return v, len(s) <= 4000 && (kind == 6 || utf8.ValidString(s))
	}
	return api.Value{}, false
}

// plainGet answers by the chapter's words which values two columns tell.
func plainGet(metas, b string, n int) ([]api.Value, api.Errno) {
	cells, e := rle.Get([]byte(metas), n)
	if e != api.OK {
		return nil, e
	}
	if len(cells) == 0 {
		for range n {
			cells = append(cells, api.Cell{})
		}
	}
	if len(cells) != n {
		return nil, api.ErrForm
	}
	var l []api.Value
	for _, c := range cells {
		var v api.Value
		if c.Is {
			size, kind := c.N/16, c.N%16
			if kind == 0 {
				return nil, api.ErrForm
			}
			if size > int64(len(b)) {
				return nil, api.ErrShort
			}
			var ok bool
			if v, ok = plainValue(kind, b[:size]); !ok {
				return nil, api.ErrForm
			}
			b = b[size:]
		}
		l = append(l, v)
	}
	if b != "" {
		return nil, api.ErrForm
	}
	return l, api.OK
}

// gets tells a test that columns aren't read as they should be; bytes behind them, in spare room, count for nothing.
func gets(t *testing.T, metas, b string, n int, want []api.Value, e api.Errno) {
	t.Helper()
	m, c := append([]byte(metas), 0, 0, 1), append([]byte(b), "\x00a\x80"...)
	l, x := raw.Get(m[:len(metas)], c[:len(b)], n)
	if x != e || !slices.Equal(l, want) {
		t.Errorf("Get(%s, %s, %d) = %s, %d; want %s, %d", brief(metas), brief(b), n, brief(l), x, brief(want), e)
	}
}

// both tells a test that values haven't such columns, or aren't read from them as they were.
func both(t *testing.T, l []api.Value, metas, b string) {
	t.Helper()
	if m, c := raw.Put(l...); string(m) != metas || string(c) != b {
		t.Errorf("Put(%s) = %s, %s; want %s, %s", brief(l), brief(string(m)), brief(string(c)), brief(metas), brief(b))
	}
	size := len(metas) + len(b) + len(leb.U(uint64(len(l))))
	if x := raw.Size(l...); x != size {
		t.Errorf("Size(%s) = %d; want %d", brief(l), x, size)
	}
	gets(t, metas, b, len(l), l, api.OK)
}

func TestValues(t *testing.T) {
	null, yes, no := api.Value{}, api.Value{Kind: api.True}, api.Value{Kind: api.False}
	seven, hi := api.Value{Kind: api.Uint, U: 7}, api.Value{Kind: api.Text, S: "hi"}
	for _, c := range []struct {
		l        []api.Value
		metas, b string
	}{
		{[]api.Value{seven, null}, "\x7f\x13\x00\x01", "\x07"}, // the chapter's example
		{nil, "", ""},
		{[]api.Value{}, "", ""},
		{[]api.Value{null}, "", ""},
		{[]api.Value{null, null, null}, "", ""},
		{[]api.Value{no}, "\x7f\x01", ""},
		{[]api.Value{yes}, "\x7f\x02", ""},
		{[]api.Value{yes, yes, yes}, "\x03\x02", ""},
		{[]api.Value{yes, no}, "\x7e\x02\x01", ""},
		{[]api.Value{null, yes}, "\x00\x01\x7f\x02", ""},
		{[]api.Value{yes, null, null}, "\x7f\x02\x00\x02", ""},
		{[]api.Value{seven}, "\x7f\x13", "\x07"},
		{[]api.Value{seven, seven}, "\x02\x13", "\x07\x07"},
		{[]api.Value{seven, {Kind: api.Uint}, {Kind: api.Uint, U: 127}}, "\x03\x13", "\x07\x00\x7f"},
		{[]api.Value{{Kind: api.Uint, U: 300}}, "\x7f\x23", "\xac\x02"},
		{[]api.Value{{Kind: api.Uint, U: math.MaxUint64}}, "\x7f\xa3\x01", "\xff\xff\xff\xff\xff\xff\xff\xff\xff\x01"},
		{[]api.Value{{Kind: api.Int, N: -1}}, "\x7f\x14", "\x7f"},
		{[]api.Value{{Kind: api.Int, N: 64}}, "\x7f\x24", "\xc0\x00"},
		{[]api.Value{{Kind: api.Int, N: math.MinInt64}}, "\x7f\xa4\x01", "\x80\x80\x80\x80\x80\x80\x80\x80\x80\x7f"},
		{[]api.Value{{Kind: api.Counter, N: 5}, {Kind: api.Time, N: 5}}, "\x7e\x17\x18", "\x05\x05"},
		{[]api.Value{hi}, "\x7f\x25", "hi"},
		{[]api.Value{hi, {Kind: api.Bytes, S: "hi"}}, "\x7e\x25\x26", "hihi"},
		{[]api.Value{{Kind: api.Text}}, "\x7f\x05", ""},
		{[]api.Value{{Kind: api.Text}, {Kind: api.Bytes}}, "\x7e\x05\x06", ""},
		{[]api.Value{{Kind: api.Bytes, S: "\xff\x00"}}, "\x7f\x26", "\xff\x00"},
		{[]api.Value{hi, yes, null, {Kind: api.Int, N: -65}}, "\x7e\x25\x02\x00\x01\x7f\x24", "hi\xbf\x7f"},
		{[]api.Value{{Kind: api.Text, S: "1234567"}}, "\x7f\x75", "1234567"},
		{[]api.Value{{Kind: api.Text, S: "12345678"}}, "\x7f\x85\x01", "12345678"},
		{[]api.Value{{Kind: api.Text, S: strings.Repeat("a", 4000)}}, "\x7f\x85\xf4\x03", strings.Repeat("a", 4000)},
		{[]api.Value{{Kind: api.Bytes, S: strings.Repeat("\xff", 4000)}, null, hi}, "\x7f\x86\xf4\x03\x00\x01\x7f\x25", strings.Repeat("\xff", 4000) + "hi"},
	} {
		both(t, c.l, c.metas, c.b)
	}
}

// drawn answers a value of some kind, that may be.
func drawn(rnd *rand.Rand) api.Value {
	texts := []string{"", "a", "h\xc3\xa9", "\x00\x7f", strings.Repeat("\xe2\x82\xac", 40), "12345678"}
	v := api.Value{Kind: rnd.IntN(9)}
	switch v.Kind {
	case 3:
		v.U = rnd.Uint64() >> rnd.IntN(64)
	case 4, 7, 8:
		v.N = int64(rnd.Uint64()) >> rnd.IntN(64)
	case 5:
		v.S = texts[rnd.IntN(len(texts))]
	case 6:
		v.S = []string{texts[rnd.IntN(len(texts))], "\xff", "\xc3"}[rnd.IntN(3)]
	}
	return v
}

// row answers so many values, some of which come several times, one behind the other.
func row(rnd *rand.Rand, n int) []api.Value {
	var l []api.Value
	for len(l) < n {
		v := drawn(rnd)
		for range 1 + rnd.IntN(3)*rnd.IntN(3) {
			l = append(l, v)
		}
	}
	return l[:n]
}

// TestWhatIsPutIsRead holds drawn columns of all lengths, those about which the number of values gets a byte more among them.
func TestWhatIsPutIsRead(t *testing.T) {
	rnd := rand.New(rand.NewPCG(15, 1))
	for range 3000 {
		l := row(rnd, rnd.IntN(20))
		metas, b := plainPut(l)
		both(t, l, metas, b)
	}
	for _, n := range []int{126, 127, 128, 129, 2000, 16383, 16384} {
		l := row(rnd, n)
		metas, b := plainPut(l)
		both(t, l, metas, b)
	}
}

func TestSize(t *testing.T) {
	for _, c := range []struct {
		n    int
		v    api.Value
		size int
	}{
		{0, api.Value{}, 1},
		{1, api.Value{}, 1},
		{127, api.Value{}, 1},
		{128, api.Value{}, 2},
		{16383, api.Value{}, 2},
		{16384, api.Value{}, 3},
		{1, api.Value{Kind: api.True}, 3},
		{63, api.Value{Kind: api.True}, 3},
		{64, api.Value{Kind: api.True}, 4},
		{128, api.Value{Kind: api.True}, 5},
		{1, api.Value{Kind: api.Text, S: "hi"}, 5},
		{3, api.Value{Kind: api.Text, S: "hi"}, 9},
	} {
		if size := raw.Size(slices.Repeat([]api.Value{c.v}, c.n)...); size != c.size {
			t.Errorf("Size of %d times %v = %d; want %d", c.n, c.v, size, c.size)
		}
	}
}

func TestPad(t *testing.T) {
	one, two := []api.Cell{{Is: true, N: 5}}, []api.Cell{{}, {Is: true}}
	for _, c := range []struct {
		cells []api.Cell
		n     int
		want  []api.Cell
		ok    bool
	}{
		{nil, 0, nil, true},
		{[]api.Cell{}, 0, nil, true},
		{nil, -1, nil, true},
		{nil, math.MinInt, nil, true},
		{nil, 1, make([]api.Cell, 1), true},
		{[]api.Cell{}, 2, make([]api.Cell, 2), true},
		{nil, 100000, make([]api.Cell, 100000), true},
		{one, 1, one, true},
		{one, 0, one, false},
		{one, 2, one, false},
		{one, -1, one, false},
		{one, math.MinInt, one, false},
		{one, math.MaxInt, one, false},
		{two, 2, two, true},
		{two, 1, two, false},
		{two, 3, two, false},
		{make([]api.Cell, 2), 2, make([]api.Cell, 2), true}, // cells of nothing are cells
		{make([]api.Cell, 2), 3, make([]api.Cell, 2), false},
	} {
		if l, ok := raw.Pad(c.cells, c.n); ok != c.ok || !slices.Equal(l, c.want) {
			t.Errorf("Pad(%s, %d) = %s, %v; want %s, %v", brief(c.cells), c.n, brief(l), ok, brief(c.want), c.ok)
		}
	}
}

// TestErrors holds which error is the first, where several things are wrong. There are nine values at most.
func TestErrors(t *testing.T) {
	long := strings.Repeat("a", 4001)
	for _, c := range []struct {
		name     string
		metas, b string
		n        int
		e        api.Errno
	}{
		{"a column's number that ends too soon", "\x80", "", 2, api.ErrShort},
		{"a column that ends too soon, and bytes too many", "\x7e\x13", "\x07\x07\x07", 2, api.ErrShort},
		{"a column of one more cell", "\x03\x02", "", 2, api.ErrLong},
		{"a column of one more cell, and bytes too few", "\x03\x13", "", 2, api.ErrLong},
		{"a cell above 2^63 - 1", "\x7f" + string(leb.U(1<<63)), "", 1, api.ErrLong},
		{"a column in another form", "\x01\x15", "a", 1, api.ErrForm},
		{"a column in another form, and bytes too few", "\x01\x15", "", 1, api.ErrForm},
		{"nothing alone, told", "\x00\x03", "", 3, api.ErrForm},
		{"a column of fewer cells", "\x02\x02", "", 3, api.ErrForm},
		{"a column of fewer cells, and bytes too few", "\x02\x13", "", 3, api.ErrForm},
		{"a column of fewer cells, all of what is there", "\x02\x13", "\x07\x07", 3, api.ErrForm},
		{"no cells, but bytes", "", "x", 3, api.ErrForm},
		{"no cells, no values, but bytes", "", "\x00", 0, api.ErrForm},
		{"cells, but no values", "\x7f\x02", "", 0, api.ErrLong},
		{"Null, told", "\x7f\x00", "", 1, api.ErrForm},
		{"Null of a byte", "\x7f\x10", "x", 1, api.ErrForm},
		{"Null of a byte that isn't there", "\x7f\x10", "", 1, api.ErrForm},
		{"Null of very many bytes", "\x7f" + string(leb.U(math.MaxInt64-15)), "x", 1, api.ErrForm},
		{"a kind that there isn't", "\x7f\x09", "", 1, api.ErrForm},
		{"a kind that there isn't, of a byte", "\x7f\x19", "x", 1, api.ErrForm},
		{"a kind that there isn't, of a byte that isn't there", "\x7f\x19", "", 1, api.ErrShort},
		{"the last kind that there isn't", "\x7f\x0f", "", 1, api.ErrForm},
		{"False of a byte", "\x7f\x11", "x", 1, api.ErrForm},
		{"True of a byte", "\x7f\x12", "\x00", 1, api.ErrForm},
		{"True of a byte that isn't there", "\x7f\x12", "", 1, api.ErrShort},
		{"a Uint of no bytes", "\x7f\x03", "", 1, api.ErrForm},
		{"a Uint of two bytes, in one and another", "\x7f\x23", "\x07\x07", 1, api.ErrForm},
		{"a Uint of one byte, of two", "\x7f\x13", "\xac\x02", 1, api.ErrForm},
		{"a Uint in a longer form", "\x7f\x23", "\x87\x00", 1, api.ErrForm},
		{"an Int in a longer form", "\x7f\x24", "\xff\x7f", 1, api.ErrForm},
		{"a Counter of no bytes", "\x7f\x07", "", 1, api.ErrForm},
		{"a Time of eleven bytes", "\x7f\xb8\x01", strings.Repeat("\x80", 10) + "\x00", 1, api.ErrForm},
		{"a Text of one byte fewer", "\x7f\x25", "h", 1, api.ErrShort},
		{"a Text of one byte fewer, that isn't UTF-8", "\x7f\x25", "\xff", 1, api.ErrShort},
		{"a Text that isn't UTF-8", "\x7f\x15", "\xff", 1, api.ErrForm},
		{"a Text cut in a character", "\x7f\x15", "\xc3\xa9", 1, api.ErrForm},
		{"a character in two Texts", "\x02\x15", "\xc3\xa9", 2, api.ErrForm},
		{"a Text of 4001 bytes", "\x7f\x95\xf4\x03", long, 1, api.ErrForm},
		{"Bytes of 4001", "\x7f\x96\xf4\x03", long, 1, api.ErrForm},
		{"Bytes of 4001, of which 4000 are there", "\x7f\x96\xf4\x03", long[1:], 1, api.ErrShort},
		{"Bytes of 2^59 - 1", "\x7f" + string(leb.U(math.MaxInt64-9)), "x", 1, api.ErrShort},
		{"a byte more", "\x7f\x25", "hi!", 1, api.ErrForm},
		{"a byte behind what has none", "\x7f\x02", "x", 1, api.ErrForm},
		{"the second one too short", "\x02\x25", "hih", 2, api.ErrShort},
		{"the second one too short, the first one wrong", "\x02\x25", "\xff\xffh", 2, api.ErrForm},
		{"the second one wrong, the first one too short", "\x7e\x25\x00", "h", 2, api.ErrShort},
		{"the second one Null, told, the first one wrong", "\x7e\x15\x10", "\xff", 2, api.ErrForm},
		{"the third one too short, the first one Null, told", "\x7d\x00\x02\x15", "", 3, api.ErrForm},
		{"the third one too short, the second one nothing", "\x7f\x15\x00\x01\x7f\x15", "a", 3, api.ErrShort},
		{"bytes are left, the last one wrong", "\x7f\x15", "\xffa", 1, api.ErrForm},
	} {
		if l, e := raw.Get([]byte(c.metas), []byte(c.b), c.n); e != c.e || len(l) != 0 {
			t.Errorf("%s: %s, %d; want %d", c.name, brief(l), e, c.e)
		}
	}
}

// TestHowMany holds how many values there may be, at the edges.
func TestHowMany(t *testing.T) {
	l := []api.Value{{Kind: api.Text, S: "hi"}, {Kind: api.True}, {}, {Kind: api.Int, N: -65}}
	metas, b := plainPut(l)
	for _, n := range []int{math.MinInt, -1, 0, 1, 3} {
		gets(t, metas, b, n, nil, api.ErrLong)
	}
	gets(t, metas, b, 4, l, api.OK)
	for _, n := range []int{5, 6, 1_000_000} {
		gets(t, metas, b, n, nil, api.ErrForm)
	}
	for _, n := range []int{0, 1, 2, 1_000_000} {
		gets(t, "", "", n, make([]api.Value, n), api.OK)
		gets(t, "", "x", n, nil, api.ErrForm)
	}
	for _, n := range []int{-1, math.MinInt} { // no cells are more than -1
		gets(t, "", "", n, nil, api.ErrForm)
		gets(t, "\x00\x00", "", n, nil, api.ErrLong)
		gets(t, "\x02", "", n, nil, api.ErrLong)
		gets(t, "\x80", "", n, nil, api.ErrShort)
	}
	many := slices.Repeat([]api.Value{{Kind: api.True}}, 1_000_000)
	metas, b = plainPut(many)
	both(t, many, metas, b)
	gets(t, metas, b, 999_999, nil, api.ErrLong)
}

// TestEnds hands in that of which nothing is promised, but that the call ends.
func TestEnds(t *testing.T) {
	for _, n := range []int{math.MinInt, -1, 1_000_001, math.MaxInt32, math.MaxInt32 + 1, 1 << 60, math.MaxInt} {
		for _, metas := range []string{"", "\x7f\x02", "\x00" + string(leb.U(1<<40)) + "\x7f\x02", string(leb.S(math.MaxInt32)) + "\x02", string(leb.S(math.MaxInt64)) + "\x02", string(leb.S(math.MinInt64)) + "\x02"} {
			if l, e := raw.Get([]byte(metas), nil, n); e == api.OK || len(l) != 0 {
				t.Errorf("Get(%x, none, %d) = %d values, %d", metas, n, len(l), e)
			}
		}
	}
	for _, n := range []int{math.MaxInt32 + 1, 1 << 60, math.MaxInt} {
		raw.Pad(nil, n)
	}
	for _, kind := range []int{math.MinInt, -17, -1, 9, 15, 16, 1 << 40, math.MaxInt} {
		v := api.Value{Kind: kind, U: 1, N: -1, S: "x"}
		raw.Put(v, v, api.Value{N: 5})
		raw.Size(v, v, api.Value{N: 5})
	}
	for kind := range 9 {
		v := api.Value{Kind: kind, U: 1, N: -1, S: strings.Repeat("\xff", 5000)}
		raw.Put(v)
		raw.Size(v)
	}
}

// TestAllCellsOfTwoBytes holds all cells of up to two bytes, alone, against some bytes.
func TestAllCellsOfTwoBytes(t *testing.T) {
	for n := range int64(1 << 14) {
		size := n / 16
		for _, b := range []string{"", "a", "\x05", "\xff", "\x80\x01", strings.Repeat("a", int(size)), strings.Repeat("\xff", int(size)), strings.Repeat("a", int(size)+1), strings.Repeat("\x80", max(int(size)-1, 0)) + "\x01"} {
			want, e := plainGet(column(n), b, 1)
			gets(t, column(n), b, 1, want, e)
		}
		if t.Failed() {
			return
		}
	}
}

// TestOneFormAlone hands in columns of all sorts: what is read is put as just these, and all else is refused as the chapter has it.
func TestOneFormAlone(t *testing.T) {
	rnd := rand.New(rand.NewPCG(15, 2))
	met := map[api.Errno]int{}
	for range 100000 {
		l := row(rnd, rnd.IntN(6))
		m, c := plainPut(l)
		metas, b := wrong(rnd, m), wrong(rnd, c)
		n := max(len(l)+rnd.IntN(5)/2-rnd.IntN(5)/4, 0)
		want, e := plainGet(metas, b, n)
		gets(t, metas, b, n, want, e)
		if x, y := plainPut(want); e == api.OK && (x != metas || y != b) {
			t.Errorf("Get(%x, %x, %d): the same values, of other columns", metas, b, n)
		}
		if t.Failed() {
			return
		}
		met[e]++
	}
	for _, e := range []api.Errno{api.OK, api.ErrShort, api.ErrForm, api.ErrLong} {
		if met[e] < 100 {
			t.Errorf("the error %d was met %d times", e, met[e])
		}
	}
}

// wrong answers bytes, of which, now and then, some are others, too many, or too few.
func wrong(rnd *rand.Rand, s string) string {
	b := []byte(s)
	some := []byte{0, 1, 2, 5, 16, 19, 21, 25, 127, 128, 255}
	for range rnd.IntN(3) * rnd.IntN(2) {
		at := rnd.IntN(len(b) + 1)
		switch x := some[rnd.IntN(len(some))]; {
		case rnd.IntN(3) == 0 || at == len(b):
			b = slices.Insert(b, at, x)
		case rnd.IntN(2) == 0:
			b = slices.Delete(b, at, at+1)
		default:
			b[at] = x
		}
	}
	return string(b)
}

// fill fills a list's spare room, too.
func fill[T any](l []T, x T) {
	for i := range l[:cap(l)] {
		l[:cap(l)][i] = x
	}
}

// TestMemory holds that what is handed in isn't changed or kept, spare room included, and that answers share no memory.
func TestMemory(t *testing.T) {
	rnd := rand.New(rand.NewPCG(15, 3))
	other := api.Value{Kind: api.Text, S: "other"}
	for i := range 50 {
		want := row(rnd, i)
		metas, b := plainPut(want)
		room := append(slices.Clone(want), other, other)
		m, c := raw.Put(room[:i]...)
		raw.Size(room[:i]...)
		again, bytes := raw.Put(room[:i]...)
		fill(again, 99)
		fill(bytes, 98)
		if string(m) != metas || string(c) != b || !slices.Equal(room, append(slices.Clone(want), other, other)) {
			t.Errorf("Put(%s): the answer became %x, %x, what was handed in %s", brief(want), m, c, brief(room))
		}
		fill(m, 97)
		if string(c) != b {
			t.Errorf("Put(%s): both columns share memory", brief(want))
		}
		m, c = append([]byte(metas), "!!"...), append([]byte(b), "??"...)
		l, _ := raw.Get(m[:len(metas)], c[:len(b)], i)
		more, _ := raw.Get(m[:len(metas)], c[:len(b)], i)
		if string(m) != metas+"!!" || string(c) != b+"??" {
			t.Errorf("Get(%x, %x) made %x, %x of what was handed in", metas, b, m, c)
		}
		fill(more, other)
		fill(m, 96)
		fill(c, 95)
		if !slices.Equal(l, want) {
			t.Errorf("Get(%x, %x): the answer became %s", metas, b, brief(l))
		}
	}
}

// TestMemoryOfCells holds that Pad answers cells of its own, whether or not there are as many as there should be.
func TestMemoryOfCells(t *testing.T) {
	five, other := api.Cell{Is: true, N: 5}, api.Cell{Is: true, N: 99}
	for _, count := range []int{0, 1, 2, 5} {
		for n := -1; n <= 6; n++ {
			want := slices.Repeat([]api.Cell{five}, count)
			room := append(slices.Clone(want), other, other)
			l, _ := raw.Pad(room[:count], n)
			kept := slices.Clone(l)
			again, _ := raw.Pad(room[:count], n)
			fill(again, api.Cell{Is: true, N: 98})
			if !slices.Equal(room, append(slices.Clone(want), other, other)) || !slices.Equal(l, kept) {
				t.Errorf("Pad of %d cells, %d: what was handed in became %v, an answer %v", count, n, room, l)
			}
			fill(room, other)
			if !slices.Equal(l, kept) {
				t.Errorf("Pad of %d cells, %d: an answer became %v", count, n, l)
			}
		}
	}
}
