package value_test

import (
	"bytes"
	"math"
	"math/rand/v2"
	"slices"
	"strings"
	"testing"
	"unicode/utf8"

	"inkwell/api"
	"inkwell/leb"
	"inkwell/value"
)

// brief answers a text's beginning, and its end.
func brief(s string) string {
	if len(s) <= 60 {
		return s
	}
	return s[:30] + ".." + s[len(s)-30:]
}

// plainPut answers a value's bytes by the chapter's words.
func plainPut(v api.Value) string {
	switch v.Kind {
	case 3:
		return string(leb.U(v.U))
	case 4, 7, 8:
		return string(leb.S(v.N))
	case 5, 6:
		return v.S
	}
	return ""
}

// plainRight tells by the chapter's words whether a value may be.
func plainRight(v api.Value) bool {
	switch v.Kind {
	case 0, 1, 2:
		return v.U == 0 && v.N == 0 && v.S == ""
	case 3:
		return v.N == 0 && v.S == ""
	case 4, 7, 8:
		return v.U == 0 && v.S == ""
	case 5:
		return v.U == 0 && v.N == 0 && utf8.ValidString(v.S) && len(v.S) <= 4000
	case 6:
		return v.U == 0 && v.N == 0 && len(v.S) <= 4000
	}
	return false
}

// gets tells a test that bytes aren't read as they should be; bytes behind them, in spare room, count for nothing.
func gets(t *testing.T, kind int, s string, want api.Value, e api.Errno) {
	for _, behind := range []string{"", "\x00\x01\x7f", "\x80\xbf\xff"} {
		b := append([]byte(s), behind...)
		if v, x := value.Get(kind, b[:len(s)]); v != want || x != e {
			t.Helper() // here alone: calls are many
			v.S, want.S = brief(v.S), brief(want.S)
			t.Errorf("Get(%d, %x) = %v, %d; want %v, %d", kind, brief(s), v, x, want, e)
		}
	}
}

// both tells a test that a value that may be hasn't such bytes, or isn't read from them, or is said not to be one.
func both(t *testing.T, v api.Value, s string) {
	if b := string(value.Put(v)); b != s {
		t.Helper()
		t.Errorf("Put of kind %d, %d, %d, %s = %x; want %x", v.Kind, v.U, v.N, brief(v.S), brief(b), brief(s))
	}
	if !value.Right(v) {
		t.Helper()
		t.Errorf("Right of kind %d, %d, %d, %s = false", v.Kind, v.U, v.N, brief(v.S))
	}
	gets(t, v.Kind, s, v, api.OK)
}

func TestValues(t *testing.T) {
	for _, c := range []struct {
		v api.Value
		s string
	}{
		{api.Value{}, ""},
		{api.Value{Kind: api.Null}, ""},
		{api.Value{Kind: api.False}, ""},
		{api.Value{Kind: api.True}, ""},
		{api.Value{Kind: api.Uint}, "\x00"},
		{api.Value{Kind: api.Uint, U: 7}, "\x07"},
		{api.Value{Kind: api.Uint, U: 64}, "\x40"},
		{api.Value{Kind: api.Uint, U: 127}, "\x7f"},
		{api.Value{Kind: api.Uint, U: 128}, "\x80\x01"},
		{api.Value{Kind: api.Uint, U: 300}, "\xac\x02"},
		{api.Value{Kind: api.Uint, U: 1 << 63}, "\x80\x80\x80\x80\x80\x80\x80\x80\x80\x01"},
		{api.Value{Kind: api.Uint, U: math.MaxUint64}, "\xff\xff\xff\xff\xff\xff\xff\xff\xff\x01"},
		{api.Value{Kind: api.Int}, "\x00"},
		{api.Value{Kind: api.Int, N: -1}, "\x7f"}, // the chapter's example
		{api.Value{Kind: api.Int, N: 64}, "\xc0\x00"},
		{api.Value{Kind: api.Int, N: -65}, "\xbf\x7f"},
		{api.Value{Kind: api.Int, N: math.MaxInt64}, "\xff\xff\xff\xff\xff\xff\xff\xff\xff\x00"},
		{api.Value{Kind: api.Int, N: math.MinInt64}, "\x80\x80\x80\x80\x80\x80\x80\x80\x80\x7f"},
		{api.Value{Kind: api.Counter}, "\x00"},
		{api.Value{Kind: api.Counter, N: 63}, "\x3f"},
		{api.Value{Kind: api.Counter, N: -64}, "\x40"},
		{api.Value{Kind: api.Counter, N: math.MinInt64}, "\x80\x80\x80\x80\x80\x80\x80\x80\x80\x7f"},
		{api.Value{Kind: api.Time}, "\x00"},
		{api.Value{Kind: api.Time, N: 5}, "\x05"},
		{api.Value{Kind: api.Time, N: -5}, "\x7b"},
		{api.Value{Kind: api.Time, N: math.MaxInt64}, "\xff\xff\xff\xff\xff\xff\xff\xff\xff\x00"},
		{api.Value{Kind: api.Text}, ""},
		{api.Value{Kind: api.Text, S: "a"}, "a"},
		{api.Value{Kind: api.Text, S: "\x00"}, "\x00"},
		{api.Value{Kind: api.Text, S: "h\xc3\xa9\xe2\x82\xac\xf0\x9f\x98\x80"}, "h\xc3\xa9\xe2\x82\xac\xf0\x9f\x98\x80"},
		{api.Value{Kind: api.Bytes}, ""},
		{api.Value{Kind: api.Bytes, S: "a"}, "a"},
		{api.Value{Kind: api.Bytes, S: "\x00"}, "\x00"},
		{api.Value{Kind: api.Bytes, S: "\xff\x80\xc3"}, "\xff\x80\xc3"},
	} {
		both(t, c.v, c.s)
	}
}

// TestNumbers holds numbers at which that of bytes changes, those about them, and drawn ones, of all kinds that are numbers.
func TestNumbers(t *testing.T) {
	var l []uint64
	for i := range 64 {
		x := uint64(1) << i
		l = append(l, x-2, x-1, x, x+1, -x-1, -x, -x+1)
	}
	rnd := rand.New(rand.NewPCG(14, 1))
	for range 3000 {
		l = append(l, rnd.Uint64()>>rnd.IntN(64), -(rnd.Uint64() >> rnd.IntN(64)))
	}
	for _, n := range l {
		both(t, api.Value{Kind: 3, U: n}, string(leb.U(n)))
		for _, kind := range []int{4, 7, 8} {
			both(t, api.Value{Kind: kind, N: int64(n)}, string(leb.S(int64(n))))
		}
	}
}

// TestLengths holds how long a text, or bytes, may be.
func TestLengths(t *testing.T) {
	euro := "\xe2\x82\xac"
	for _, c := range []struct {
		s    string
		kind int
		ok   bool
	}{
		{strings.Repeat("a", 3999), 5, true},
		{strings.Repeat("a", 4000), 5, true},
		{strings.Repeat("a", 4001), 5, false},
		{strings.Repeat(euro, 1333), 5, true},
		{strings.Repeat(euro, 1333) + "a", 5, true},
		{strings.Repeat(euro, 1333) + "\xc3\xa9", 5, false}, // the 4000th byte is a character's first one
		{strings.Repeat(euro, 1333) + "\xc3", 5, false},
		{strings.Repeat(euro, 1334), 5, false},
		{strings.Repeat("\xf0\x9f\x98\x80", 1000), 5, true},
		{strings.Repeat("a", 1<<20), 5, false},
		{strings.Repeat("\xff", 3999), 6, true},
		{strings.Repeat("\xff", 4000), 6, true},
		{strings.Repeat("\xff", 4001), 6, false},
		{strings.Repeat("\x00", 4001), 6, false},
		{strings.Repeat("a", 1<<20), 6, false},
	} {
		v := api.Value{Kind: c.kind, S: c.s}
		if c.ok {
			both(t, v, c.s)
			continue
		}
		if value.Right(v) {
			t.Errorf("Right of kind %d, %d bytes", c.kind, len(c.s))
		}
		gets(t, c.kind, c.s, api.Value{}, api.ErrForm)
	}
}

// wild answers values of all sorts, and of kinds that there are not.
func wild() []api.Value {
	var l []api.Value
	long := strings.Repeat("a", 4001)
	for _, kind := range []int{math.MinInt, -1 << 32, -256, -1, 0, 1, 2, 3, 4, 5, 6, 7, 8, 9, 10, 16, 255, 256, 259, 1 << 32, math.MaxInt} {
		for _, u := range []uint64{0, 1, 128, math.MaxUint64} {
			for _, n := range []int64{0, 1, -1, 64, math.MaxInt64, math.MinInt64} {
				for _, s := range []string{"", "\x00", "x", "\xc3\xa9", "\xc3", "\xff", long[:4000], long} {
					l = append(l, api.Value{Kind: kind, U: u, N: n, S: s})
				}
			}
		}
	}
	return l
}

// TestRight holds which values may be: of what doesn't count, all is zero.
func TestRight(t *testing.T) {
	for _, v := range wild() {
		want := plainRight(v)
		if ok := value.Right(v); ok != want {
			t.Errorf("Right of kind %d, %d, %d, %x = %v", v.Kind, v.U, v.N, brief(v.S), ok)
		}
		if want {
			both(t, v, plainPut(v))
		} else {
			value.Put(v) // promises nothing, but that it ends
		}
	}
}

func TestRightOfTexts(t *testing.T) {
	for _, c := range []struct {
		s  string
		ok bool
	}{
		{"\x7f", true},
		{"\x80", false},
		{"\xc2\x80", true},
		{"\xc0\x80", false},
		{"\xe2\x82\xac", true},
		{"\xe2\x82", false},
		{"a\xe2\x82", false},
		{"\xed\x9f\xbf", true},
		{"\xed\xa0\x80", false},
		{"\xf4\x8f\xbf\xbf", true},
		{"\xf4\x90\x80\x80", false},
		{strings.Repeat("a", 3999) + "\xff", false},
		{"\xff" + strings.Repeat("a", 3999), false},
	} {
		v := api.Value{Kind: api.Text, S: c.s}
		if ok := value.Right(v); ok != c.ok {
			t.Errorf("Right of the text %x = %v", brief(c.s), ok)
		}
		if !c.ok {
			gets(t, api.Text, c.s, api.Value{}, api.ErrForm)
		}
		both(t, api.Value{Kind: api.Bytes, S: c.s}, c.s)
	}
}

func TestRightOfMany(t *testing.T) {
	good := []api.Value{{}, {Kind: api.True}, {Kind: api.Uint, U: 1}, {Kind: api.Int, N: -1}, {Kind: api.Text, S: "\xc3\xa9"}, {Kind: api.Bytes, S: "\xff"}, {Kind: api.Counter, N: 1}, {Kind: api.Time, N: 2}}
	if !value.Right() || !value.Right(good...) || !value.Right(good[2], good[2]) {
		t.Error("Right is false of values that may be")
	}
	for _, bad := range []api.Value{{Kind: 9}, {Kind: -1}, {U: 1}, {Kind: api.Text, S: "\xff"}, {Kind: api.Time, U: 1}} {
		if value.Right(bad) {
			t.Errorf("Right(%v)", bad)
		}
		for i := range len(good) + 1 {
			if value.Right(slices.Insert(slices.Clone(good), i, bad)...) {
				t.Errorf("Right is true with %v at %d", bad, i)
			}
		}
	}
	// Each text for itself.
	if value.Right(api.Value{Kind: api.Text, S: "\xc3"}, api.Value{Kind: api.Text, S: "\xa9"}) {
		t.Error("Right of a character cut in two")
	}
}

// TestGetRefuses holds bytes that are no value's of a kind.
func TestGetRefuses(t *testing.T) {
	for _, c := range []struct {
		name  string
		kinds []int
		s     string
	}{
		{"no kind, no bytes", []int{math.MinInt, -1, 9, 10, 16, 256, 259, 1 << 32, math.MaxInt}, ""},
		{"no kind, a byte", []int{math.MinInt, -1, 9, 10, 16, 256, 259, 1 << 32, math.MaxInt}, "\x01"},
		{"a byte of what has none", []int{0, 1, 2}, "x"},
		{"the byte 0 of what has none", []int{0, 1, 2}, "\x00"},
		{"a number without bytes", []int{3, 4, 7, 8}, ""},
		{"a number that ends too soon", []int{3, 4, 7, 8}, "\x80"},
		{"a longer one that ends too soon", []int{3, 4, 7, 8}, "\xac\xff"},
		{"a longer form of 0", []int{3, 4, 7, 8}, "\x80\x00"},
		{"a longer form of 127", []int{3}, "\xff\x00"},
		{"a longer form of -1", []int{4, 7, 8}, "\xff\x7f"},
		{"a longer form of 63", []int{4, 7, 8}, "\xbf\x00"},
		{"two numbers", []int{3, 4, 7, 8}, "\x01\x01"},
		{"a number, and 0", []int{3, 4, 7, 8}, "\x01\x00"},
		{"a number of two bytes, and what ends too soon", []int{3, 4, 7, 8}, "\xac\x02\x80"},
		{"the greatest one, and one more", []int{3}, "\xff\xff\xff\xff\xff\xff\xff\xff\xff\x01\x00"},
		{"2^64", []int{3, 4, 7, 8}, "\x80\x80\x80\x80\x80\x80\x80\x80\x80\x02"},
		{"2^63, with a sign", []int{4, 7, 8}, "\x80\x80\x80\x80\x80\x80\x80\x80\x80\x01"},
		{"no end", []int{3, 4, 7, 8}, strings.Repeat("\x80", 10)},
		{"no end, and a number", []int{3, 4, 7, 8}, strings.Repeat("\xff", 10) + "\x01"},
		{"a text that isn't UTF-8", []int{5}, "\xff"},
		{"a text that ends too soon", []int{5}, "ab\xc3"},
		{"a text that isn't UTF-8 between", []int{5}, "a\x80b"},
	} {
		for _, kind := range c.kinds {
			if v, e := value.Get(kind, []byte(c.s)); e != api.ErrForm || v != (api.Value{}) {
				t.Errorf("%s: Get(%d, %x) = %v, %d", c.name, kind, c.s, v, e)
			}
		}
	}
}

// TestNoBytes holds what no bytes at all are, of all kinds.
func TestNoBytes(t *testing.T) {
	for kind := -2; kind <= 11; kind++ {
		want, e := api.Value{Kind: kind}, api.OK
		if kind < 0 || kind > 8 || plainPut(want) != "" {
			want, e = api.Value{}, api.ErrForm
		}
		gets(t, kind, "", want, e)
		if v, x := value.Get(kind, nil); v != want || x != e {
			t.Errorf("Get(%d, nil) = %v, %d; want %v, %d", kind, v, x, want, e)
		}
	}
}

// TestAllBytesOfTwo holds all of up to two bytes, of all kinds, against the values that have such bytes.
func TestAllBytesOfTwo(t *testing.T) {
	number := map[int]map[string]api.Value{3: {}, 4: {}, 7: {}, 8: {}}
	for i := range 1 << 14 {
		v := api.Value{Kind: 3, U: uint64(i)}
		number[3][plainPut(v)] = v
		for _, kind := range []int{4, 7, 8} {
			v := api.Value{Kind: kind, N: int64(i) - 1<<13}
			number[kind][plainPut(v)] = v
		}
	}
	check := func(kind int, s string) {
		want, ok := number[kind][s]
		if kind == 5 || kind == 6 {
			want = api.Value{Kind: kind, S: s}
			ok = kind == 6 || utf8.ValidString(s)
		}
		if ok {
			both(t, want, s)
		} else {
			gets(t, kind, s, api.Value{}, api.ErrForm)
		}
	}
	for kind := -1; kind <= 9; kind++ {
		for i := range 256 {
			check(kind, string([]byte{byte(i)}))
			for j := range 256 {
				check(kind, string([]byte{byte(i), byte(j)}))
			}
		}
		if t.Failed() {
			return
		}
	}
}

// TestBytesOfItsOwn hands in bytes of all sorts: what is read may be, is of the kind that was asked for, and has just these bytes.
func TestBytesOfItsOwn(t *testing.T) {
	rnd := rand.New(rand.NewPCG(14, 2))
	some := []byte{0, 1, 'a', 63, 64, 127, 128, 129, 169, 191, 192, 195, 226, 240, 255}
	read := map[int]int{}
	for range 100000 {
		b := make([]byte, rnd.IntN(12))
		for i := range b {
			b[i] = some[rnd.IntN(len(some))]
			if rnd.IntN(2) > 0 && i < len(b)-1 {
				b[i] |= 128
			}
		}
		for kind := range 9 {
			v, e := value.Get(kind, b)
			switch {
			case e == api.OK && v.Kind == kind && plainRight(v) && plainPut(v) == string(b) && value.Right(v) && bytes.Equal(value.Put(v), b):
				read[kind]++
			case e == api.ErrForm && v == (api.Value{}):
			default:
				t.Fatalf("Get(%d, %x) = %v, %d", kind, b, v, e)
			}
		}
	}
	for kind := range 9 {
		if read[kind] == 0 {
			t.Errorf("none of the kind %d was read", kind)
		}
	}
}

// fill fills a list's spare room, too.
func fill(b []byte, x byte) {
	for i := range b[:cap(b)] {
		b[:cap(b)][i] = x
	}
}

// TestMemory holds that what is handed in isn't changed or kept, spare room included, and that answers share no memory.
func TestMemory(t *testing.T) {
	for _, v := range []api.Value{{Kind: api.Uint, U: 5}, {Kind: api.Uint, U: 300}, {Kind: api.Int, N: -1}, {Kind: api.Counter, N: 1 << 40}, {Kind: api.Time}, {Kind: api.True}, {Kind: api.Text}, {Kind: api.Text, S: "h\xc3\xa9"}, {Kind: api.Text, S: strings.Repeat("a", 4000)}, {Kind: api.Bytes, S: "\xff"}, {Kind: api.Bytes, S: strings.Repeat("\xff", 4000)}} {
		want, s := v, plainPut(v)
		want.S = strings.Clone(v.S)
		first := value.Put(v)
		fill(value.Put(v), 99)
		if string(first) != s || v != want {
			t.Errorf("Put of kind %d: the answer became %x, what was handed in %x", v.Kind, brief(string(first)), brief(v.S))
		}
		fill(first, 98)
		if v != want || string(value.Put(v)) != s {
			t.Errorf("kind %d: what was handed in became %x", v.Kind, brief(v.S))
		}
		given := append([]byte(s), 97, 97)
		read, e := value.Get(v.Kind, given[:len(s)])
		if string(given) != s+"aa" {
			t.Errorf("Get of kind %d changed what was handed in", v.Kind)
		}
		fill(given, 96)
		if e != api.OK || read != want {
			t.Errorf("Get of kind %d: the answer became %x", v.Kind, brief(read.S))
		}
	}
	l := []api.Value{{Kind: api.Text, S: "a"}, {Kind: api.Int, N: 1}, {Kind: 9, U: 1}}
	kept := slices.Clone(l)
	value.Right(l[:2]...)
	value.Right(l...)
	if !slices.Equal(l, kept) {
		t.Errorf("what was handed in became %v", l)
	}
}
