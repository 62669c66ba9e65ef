package utf_test

import (
	"math/rand/v2"
	"slices"
	"strings"
	"testing"
	"unicode/utf8"

	"inkwell/utf"
)

// plain answers the bytes of a number's character by quotients and rests, as the chapter tells them; of any number, so that those of no character are told too.
func plain(n int) string {
	switch {
	case n < 128:
		return text(n)
	case n < 2048:
		return text(192+n/64, 128+n%64)
	case n < 65536:
		return text(224+n/4096, 128+n/64%64, 128+n%64)
	}
	return text(240+n/262144, 128+n/4096%64, 128+n/64%64, 128+n%64)
}

// text answers the text of some bytes.
func text(l ...int) string {
	var b []byte
	for _, x := range l {
		b = append(b, byte(x))
	}
	return string(b)
}

// numbers answers the numbers of all characters.
func numbers() []int {
	var l []int
	for n := range 1114112 {
		if n < 55296 || n > 57343 {
			l = append(l, n)
		}
	}
	return l
}

// nexts ends a test, if Next doesn't answer what it should.
func nexts(t *testing.T, s string, want int) {
	if n := utf.Next(s); n != want {
		t.Helper() // here alone: it costs more than all the rest, and calls are many
		t.Fatalf("Next(%x) = %d; want %d", s, n, want)
	}
}

func TestNext(t *testing.T) {
	for _, c := range []struct {
		name, s string
		want    int
	}{
		{"nothing", "", 0},
		{"the chapter's example", "\xe2\x82\xac", 3},
		{"0", "\x00", 1},
		{"127", "\x7f", 1},
		{"128", "\xc2\x80", 2},
		{"2047", "\xdf\xbf", 2},
		{"2048", "\xe0\xa0\x80", 3},
		{"55295", "\xed\x9f\xbf", 3},
		{"55296", "\xed\xa0\x80", 0},
		{"56320", "\xed\xb0\x80", 0},
		{"57343", "\xed\xbf\xbf", 0},
		{"55296 and 56320, one behind the other", "\xed\xa0\x80\xed\xb0\x80", 0},
		{"57344", "\xee\x80\x80", 3},
		{"65535", "\xef\xbf\xbf", 3},
		{"65536", "\xf0\x90\x80\x80", 4},
		{"1114111", "\xf4\x8f\xbf\xbf", 4},
		{"1114112", "\xf4\x90\x80\x80", 0},
		{"2097151", "\xf7\xbf\xbf\xbf", 0},
		{"0 in two bytes", "\xc0\x80", 0},
		{"127 in two bytes", "\xc1\xbf", 0},
		{"0 in three bytes", "\xe0\x80\x80", 0},
		{"127 in three bytes", "\xe0\x81\xbf", 0},
		{"2047 in three bytes", "\xe0\x9f\xbf", 0},
		{"0 in four bytes", "\xf0\x80\x80\x80", 0},
		{"2047 in four bytes", "\xf0\x80\x9f\xbf", 0},
		{"65535 in four bytes", "\xf0\x8f\xbf\xbf", 0},
		{"five bytes", "\xf8\x88\x80\x80\x80", 0},
		{"six bytes", "\xfc\x84\x80\x80\x80\x80", 0},
		{"254 and 255", "\xfe\xff", 0},
		{"a byte that stands behind others alone", "\x80", 0},
		{"such a byte ahead of a character", "\xbfa", 0},
		{"two bytes, the first alone", "\xc3", 0},
		{"two bytes, the second below", "\xc3\x7f", 0},
		{"two bytes, the second above", "\xc3\xc0", 0},
		{"three bytes, two of them", "\xe2\x82", 0},
		{"three bytes, the third below", "\xe2\x82\x7f", 0},
		{"three bytes, the third above", "\xe2\x82\xc0", 0},
		{"three bytes, the second below", "\xe2\x7f\xac", 0},
		{"four bytes, three of them", "\xf0\x9f\x98", 0},
		{"four bytes, the fourth below", "\xf0\x9f\x98\x7f", 0},
		{"four bytes, the fourth above", "\xf0\x9f\x98\xc0", 0},
		{"four bytes, the third below", "\xf0\x9f\x7f\x80", 0},
		{"the first of two", "ab", 1},
		{"one ahead of what is none", "\xc3\xa9\xff", 2},
	} {
		if n := utf.Next(c.s); n != c.want {
			t.Errorf("%s: Next(%x) = %d; want %d", c.name, c.s, n, c.want)
		}
	}
}

// behinds answers what may stand behind a character, and counts for nothing there.
func behinds() []string {
	return []string{"", "a", "\x00", "\x80", "\xbf", "\xc3", "\xff", "\xe2\x82\xac"}
}

func TestNextOfAllCharacters(t *testing.T) {
	for _, n := range numbers() {
		s := plain(n)
		for _, behind := range behinds() {
			nexts(t, s+behind, len(s))
		}
	}
}

func TestNextOfCutCharacters(t *testing.T) {
	for _, n := range numbers() {
		s := plain(n)
		for k := range len(s) {
			nexts(t, s[:k], 0)
			if k > 0 {
				nexts(t, s[:k]+"a", 0)
				nexts(t, s[:k]+"\xc3\xa9", 0)
			}
		}
	}
}

func TestNextOfNumbersOfNone(t *testing.T) {
	for n := 55296; n <= 57343; n++ {
		nexts(t, plain(n), 0)
	}
	for n := 1114112; n < 1<<21; n++ { // four bytes go so far
		nexts(t, plain(n), 0)
	}
}

func TestNextOfLongerForms(t *testing.T) {
	for n := range 128 {
		nexts(t, text(192+n/64, 128+n%64), 0)
	}
	for n := range 2048 {
		nexts(t, text(224, 128+n/64, 128+n%64), 0)
	}
	for n := range 65536 {
		nexts(t, text(240, 128+n/4096, 128+n/64%64, 128+n%64), 0)
	}
}

// TestNextOfBytes holds all beginnings of two bytes, with edges behind them, against the bytes that characters have.
func TestNextOfBytes(t *testing.T) {
	characters := map[string]bool{}
	for _, n := range numbers() {
		characters[plain(n)] = true
	}
	edge := []int{0, 127, 128, 191, 192, 255}
	for i := range 1 << 16 {
		for j := range len(edge) * len(edge) {
			s := text(i/256, i%256, edge[j/len(edge)], edge[j%len(edge)])
			want := 0
			for k := range 5 {
				if characters[s[:k]] {
					want = k
				}
			}
			nexts(t, s, want)
		}
	}
}

// TestOneWayAlone: where no character's bytes begin another one's, and no two are the same, there is one cut alone.
func TestOneWayAlone(t *testing.T) {
	var l []string
	for _, n := range numbers() {
		l = append(l, plain(n))
	}
	slices.Sort(l)
	for i := range len(l) - 1 { // in this order what begins another one stands right ahead of such a one
		if strings.HasPrefix(l[i+1], l[i]) {
			t.Errorf("%x begins %x", l[i], l[i+1])
		}
	}
	for _, s := range l {
		for k := 1; k < len(s); k++ {
			nexts(t, s[:k], 0)
			nexts(t, s[k:], 0)
		}
	}
}

func TestWhere(t *testing.T) {
	for _, c := range []struct {
		s    string
		want int
	}{
		{"", 0},
		{"a", 1},
		{"abc", 3},
		{"\x00\x00", 2},
		{"\xff", 0},
		{"\x80abc", 0},
		{"ab\xc3\xa9", 4},
		{"ab\xc3\xa9\xff", 4},
		{"ab\xc3\xa9\xffcd", 4},
		{"ab\xc3", 2},
		{"ab\xc3\xff\xa9", 2},
		{"\xe2\x82\xac\xe2\x82", 3},
		{"\xf0\x9f\x98\x80\xf0\x9f\x98", 4},
		{"a\xc2\x80\xe0\xa0\x80\xf0\x90\x80\x80z", 11},
		{"a\xed\xa0\x80\xed\xb0\x80", 1},
		{"a\xc0\x80", 1},
		{"a\xf4\x90\x80\x80", 1},
	} {
		if n := utf.Where(c.s); n != c.want {
			t.Errorf("Where(%x) = %d; want %d", c.s, n, c.want)
		}
		if ok := utf.Valid(c.s); ok != (c.want == len(c.s)) {
			t.Errorf("Valid(%x) = %v", c.s, ok)
		}
	}
}

// TestRowsOfCharacters cuts rows of characters again, and finds what is none among them.
func TestRowsOfCharacters(t *testing.T) {
	rnd := rand.New(rand.NewPCG(3, 1))
	all := numbers()
	wrong := []string{"\x80", "\xbf", "\xc3", "\xc0\x80", "\xed\xa0\x80", "\xe2\x82", "\xf0\x9f\x98", "\xf4\x90\x80\x80", "\xf8", "\xff"}
	for range 20000 {
		var row strings.Builder
		var cuts []int
		for range rnd.IntN(12) {
			s := plain(all[rnd.IntN(len(all))>>rnd.IntN(20)])
			row.WriteString(s)
			cuts = append(cuts, len(s))
		}
		s := row.String()
		at := 0
		for _, k := range cuts {
			nexts(t, s[at:], k)
			at += k
		}
		if n := utf.Where(s); n != len(s) || !utf.Valid(s) {
			t.Errorf("Where(%x) = %d; want %d", s, n, len(s))
		}
		bad := s + wrong[rnd.IntN(len(wrong))]
		for _, behind := range []string{"", "a", "\xe2\x82\xac", "\xff"} {
			if n := utf.Where(bad + behind); n != len(s) || utf.Valid(bad+behind) {
				t.Errorf("Where(%x) = %d; want %d", bad+behind, n, len(s))
			}
		}
	}
}

// TestAgainstTheLibrary hands in bytes of all sorts.
func TestAgainstTheLibrary(t *testing.T) {
	rnd := rand.New(rand.NewPCG(3, 2))
	some := []byte{0, 'a', 0x7f, 0x80, 0x8f, 0x90, 0x9f, 0xa0, 0xbf, 0xc0, 0xc1, 0xc2, 0xdf, 0xe0, 0xe1, 0xed, 0xee, 0xef, 0xf0, 0xf1, 0xf3, 0xf4, 0xf5, 0xf7, 0xf8, 0xff}
	for range 300000 {
		b := make([]byte, rnd.IntN(9))
		for i := range b {
			b[i] = some[rnd.IntN(len(some))]
			if rnd.IntN(2) > 0 {
				b[i] = b[i]&63 | 128
			}
		}
		s := string(b)
		want := 0
		for {
			r, k := utf8.DecodeRuneInString(s[want:])
			if r == utf8.RuneError && k < 3 {
				break
			}
			want += k
		}
		if n := utf.Where(s); n != want || utf.Valid(s) != utf8.ValidString(s) {
			t.Fatalf("Where(%x) = %d; want %d", s, n, want)
		}
	}
}

func TestValid(t *testing.T) {
	for _, c := range []struct {
		l    []string
		want bool
	}{
		{nil, true},
		{[]string{}, true},
		{[]string{""}, true},
		{[]string{"", "", ""}, true},
		{[]string{"a"}, true},
		{[]string{"h\xc3\xa9", "x"}, true},
		{[]string{"\xe2\x82\xac", "", "\xf4\x8f\xbf\xbf"}, true},
		{[]string{"\xff"}, false},
		{[]string{"x", "\xc3"}, false},
		{[]string{"\xc3", "x"}, false},
		{[]string{"x", "\xc3", "x"}, false},
		{[]string{"", "\x80"}, false},
		{[]string{"\xc3", "\xa9"}, false}, // each text for itself
		{[]string{"a\xed\xa0\x80", "\xed\xb0\x80"}, false},
	} {
		if ok := utf.Valid(c.l...); ok != c.want {
			t.Errorf("Valid(%q) = %v", c.l, ok)
		}
	}
}

func TestLongTexts(t *testing.T) {
	s := strings.Repeat("a\xc3\xa9\xe2\x82\xac\xf0\x9f\x98\x80", 100000)
	if n := utf.Where(s); n != len(s) || !utf.Valid(s, s) {
		t.Errorf("Where = %d; want %d", n, len(s))
	}
	if n := utf.Where(s + "\x80" + s); n != len(s) || utf.Valid(s, s+"\x80") {
		t.Errorf("Where = %d; want %d", n, len(s))
	}
}

func TestWhatIsHandedInStays(t *testing.T) {
	l := []string{"a", "\xc3\xa9", "\xff", "b"}
	utf.Valid(l[:2]...)
	utf.Valid(l[:3]...)
	if !slices.Equal(l, []string{"a", "\xc3\xa9", "\xff", "b"}) {
		t.Errorf("what was handed in became %q", l)
	}
}
