package leb_test

import (
	"bytes"
	"math"
	"math/big"
	"math/rand/v2"
	"slices"
	"strings"
	"testing"

	"inkwell/api"
	"inkwell/leb"
)

// plain answers the bytes of a number without a sign, digit by digit, as the chapter tells them.
func plain(n uint64) string {
	x, base := new(big.Int).SetUint64(n), big.NewInt(128)
	var b []byte
	for {
		digit := new(big.Int)
		x.DivMod(x, base, digit)
		if x.Sign() == 0 {
			return string(append(b, byte(digit.Int64())))
		}
		b = append(b, byte(digit.Int64()+128))
	}
}

// plainSigned answers the bytes of a number with a sign, quotient by quotient, as the chapter tells them.
func plainSigned(n int64) string {
	x, base := big.NewInt(n), big.NewInt(128)
	var b []byte
	for {
		small := x.Cmp(big.NewInt(-64)) >= 0 && x.Cmp(big.NewInt(63)) <= 0
		digit := new(big.Int)
		x.DivMod(x, base, digit) // rounds down, as 128 is above 0
		if small {
			return string(append(b, byte(digit.Int64())))
		}
		b = append(b, byte(digit.Int64()+128))
	}
}

// edges answers numbers at which the number of bytes changes, those about them, and some that follow from a seed.
func edges() []uint64 {
	l := []uint64{0, 1, 63, 64, 65, 127, 128, 129, 255, 256, 300, 624485, 1<<53 - 1, 1 << 53}
	for i := range 64 {
		x := uint64(1) << i
		l = append(l, x-2, x-1, x, x+1, -x-1, -x, -x+1)
	}
	rnd := rand.New(rand.NewPCG(2, 2))
	for range 5000 {
		l = append(l, rnd.Uint64()>>rnd.IntN(64), -(rnd.Uint64() >> rnd.IntN(64)))
	}
	return l
}

func TestU(t *testing.T) {
	for _, c := range []struct {
		n uint64
		s string
	}{
		{0, "\x00"},
		{1, "\x01"},
		{127, "\x7f"},
		{128, "\x80\x01"},
		{300, "\xac\x02"}, // the chapter's example
		{16383, "\xff\x7f"},
		{16384, "\x80\x80\x01"},
		{1<<63 - 1, "\xff\xff\xff\xff\xff\xff\xff\xff\x7f"},
		{1 << 63, "\x80\x80\x80\x80\x80\x80\x80\x80\x80\x01"},
		{math.MaxUint64, "\xff\xff\xff\xff\xff\xff\xff\xff\xff\x01"},
	} {
		if s := leb.U(c.n); string(s) != c.s {
			t.Errorf("U(%d) = %x; want %x", c.n, s, c.s)
		}
	}
	for _, n := range edges() {
		if s := leb.U(n); string(s) != plain(n) {
			t.Errorf("U(%d) = %x; want %x", n, s, plain(n))
		}
	}
}

func TestS(t *testing.T) {
	for _, c := range []struct {
		n int64
		s string
	}{
		{0, "\x00"},
		{1, "\x01"},
		{-1, "\x7f"}, // the chapter's example
		{63, "\x3f"},
		{-64, "\x40"},
		{64, "\xc0\x00"},
		{-65, "\xbf\x7f"},
		{127, "\xff\x00"},
		{128, "\x80\x01"},
		{-128, "\x80\x7f"},
		{8191, "\xff\x3f"},
		{8192, "\x80\xc0\x00"},
		{-8192, "\x80\x40"},
		{-8193, "\xff\xbf\x7f"},
		{1<<62 - 1, "\xff\xff\xff\xff\xff\xff\xff\xff\x3f"},
		{1 << 62, "\x80\x80\x80\x80\x80\x80\x80\x80\xc0\x00"},
		{-1 << 62, "\x80\x80\x80\x80\x80\x80\x80\x80\x40"},
		{-1<<62 - 1, "\xff\xff\xff\xff\xff\xff\xff\xff\xbf\x7f"},
		{math.MaxInt64, "\xff\xff\xff\xff\xff\xff\xff\xff\xff\x00"},
		{math.MinInt64, "\x80\x80\x80\x80\x80\x80\x80\x80\x80\x7f"},
	} {
		if s := leb.S(c.n); string(s) != c.s {
			t.Errorf("S(%d) = %x; want %x", c.n, s, c.s)
		}
	}
	for _, n := range edges() {
		if s := leb.S(int64(n)); string(s) != plainSigned(int64(n)) {
			t.Errorf("S(%d) = %x; want %x", int64(n), s, plainSigned(int64(n)))
		}
	}
}

func TestAll(t *testing.T) {
	for _, c := range []struct {
		l []uint64
		s string
	}{
		{nil, ""},
		{[]uint64{}, ""},
		{[]uint64{0}, "\x00"},
		{[]uint64{0, 0, 0}, "\x00\x00\x00"},
		{[]uint64{300}, "\xac\x02"},
		{[]uint64{1, 300, 127, 128}, "\x01\xac\x02\x7f\x80\x01"},
		{[]uint64{math.MaxUint64, 0}, "\xff\xff\xff\xff\xff\xff\xff\xff\xff\x01\x00"},
	} {
		if s := leb.All(c.l...); string(s) != c.s {
			t.Errorf("All(%d) = %x; want %x", c.l, s, c.s)
		}
	}
	l := edges()
	var want strings.Builder
	for _, n := range l {
		want.WriteString(plain(n))
	}
	if s := leb.All(l...); string(s) != want.String() {
		t.Errorf("All of %d numbers isn't their bytes, one behind the other", len(l))
	}
}

// getsU tells a test that GetU doesn't answer what it should.
func getsU(t *testing.T, s string, n uint64, k int, e api.Errno) {
	t.Helper()
	if x, j, f := leb.GetU([]byte(s)); x != n || j != k || f != e {
		t.Errorf("GetU(%x) = %d, %d, %d; want %d, %d, %d", s, x, j, f, n, k, e)
	}
}

// getsS tells a test that GetS doesn't answer what it should.
func getsS(t *testing.T, s string, n int64, k int, e api.Errno) {
	t.Helper()
	if x, j, f := leb.GetS([]byte(s)); x != n || j != k || f != e {
		t.Errorf("GetS(%x) = %d, %d, %d; want %d, %d, %d", s, x, j, f, n, k, e)
	}
}

// behinds answers what may stand behind a number, and counts for nothing there.
func behinds() []string {
	return []string{"", "\x00", "\x01", "\x7f", "\x80", "\xff\xff\xff\xff\xff\xff\xff\xff\xff\xff\xff\xff"}
}

func TestWhatIsPutIsRead(t *testing.T) {
	for _, n := range edges() {
		u, s := plain(n), plainSigned(int64(n))
		for _, behind := range behinds() {
			getsU(t, u+behind, n, len(u), api.OK)
			getsS(t, s+behind, int64(n), len(s), api.OK)
		}
	}
}

func TestRowIsRead(t *testing.T) {
	l := edges()
	b := leb.All(l...)
	for i, want := range l {
		n, k, e := leb.GetU(b)
		if n != want || k != len(plain(want)) || e != api.OK {
			t.Fatalf("number %d: %d, %d, %d; want %d", i, n, k, e, want)
		}
		b = b[k:]
	}
	if len(b) != 0 {
		t.Errorf("%d bytes are left", len(b))
	}
}

func TestTooShort(t *testing.T) {
	getsU(t, "", 0, 0, api.ErrShort)
	getsS(t, "", 0, 0, api.ErrShort)
	for _, n := range edges() {
		u, s := plain(n), plainSigned(int64(n))
		for k := range len(u) {
			getsU(t, u[:k], 0, 0, api.ErrShort)
		}
		for k := range len(s) {
			getsS(t, s[:k], 0, 0, api.ErrShort)
		}
	}
	for _, x := range []string{"\x80", "\x81", "\xbf", "\xc0", "\xff"} {
		for k := 1; k < 10; k++ {
			getsU(t, strings.Repeat(x, k), 0, 0, api.ErrShort)
			getsS(t, strings.Repeat(x, k), 0, 0, api.ErrShort)
		}
	}
}

func TestSpareRoomIsNotRead(t *testing.T) {
	b := []byte("\x80\x80\x01")
	if n, k, e := leb.GetU(b[:2]); n != 0 || k != 0 || e != api.ErrShort {
		t.Errorf("GetU = %d, %d, %d", n, k, e)
	}
	if n, k, e := leb.GetS(b[:2]); n != 0 || k != 0 || e != api.ErrShort {
		t.Errorf("GetS = %d, %d, %d", n, k, e)
	}
}

func TestTenBytesThatDoNotEnd(t *testing.T) {
	for _, x := range []string{"\x80", "\x81", "\xbf", "\xc0", "\xff"} {
		for _, behind := range append(behinds(), "\x80\x00", "\x80\x01") {
			getsU(t, strings.Repeat(x, 10)+behind, 0, 0, api.ErrForm)
			getsS(t, strings.Repeat(x, 10)+behind, 0, 0, api.ErrForm)
		}
	}
}

func TestLongerForms(t *testing.T) {
	for _, s := range []string{"\x80\x00", "\x81\x00", "\xff\x80\x00", "\x80\x80\x00", "\x80\x80\x80\x80\x80\x80\x80\x80\x80\x00"} {
		for _, behind := range behinds() {
			getsU(t, s+behind, 0, 0, api.ErrForm)
		}
	}
	for _, s := range []string{"\x80\x00", "\xbf\x00", "\xff\x7f", "\xc0\x7f", "\x80\x80\x00", "\xff\xff\x7f", "\xc0\x80\x00", "\xbf\xff\x7f"} {
		for _, behind := range behinds() {
			getsS(t, s+behind, 0, 0, api.ErrForm)
		}
	}
	getsU(t, "\xff\x00", 0, 0, api.ErrForm)
	getsS(t, "\xff\x00", 127, 2, api.OK)
	getsU(t, "\xff\x7f", 16383, 2, api.OK)
}

func TestTenthByte(t *testing.T) {
	for _, c := range []struct {
		ahead string
		u     uint64
		s     [2]int64
		ok    [2]bool // whether 0, and 127, end a number with a sign
	}{
		{strings.Repeat("\x80", 9), 1 << 63, [2]int64{0, math.MinInt64}, [2]bool{false, true}},
		{strings.Repeat("\xff", 9), math.MaxUint64, [2]int64{math.MaxInt64, 0}, [2]bool{true, false}},
		{strings.Repeat("\x80", 8) + "\xc0", 3 << 62, [2]int64{1 << 62, 0}, [2]bool{true, false}},
		{strings.Repeat("\xff", 8) + "\xbf", math.MaxUint64 - 1<<62, [2]int64{0, -1<<62 - 1}, [2]bool{false, true}},
	} {
		for last := range 128 {
			s := c.ahead + string([]byte{byte(last)})
			if last == 1 {
				getsU(t, s, c.u, 10, api.OK)
			} else {
				getsU(t, s, 0, 0, api.ErrForm)
			}
			i := last / 127
			if (last == 0 || last == 127) && c.ok[i] {
				getsS(t, s, c.s[i], 10, api.OK)
			} else {
				getsS(t, s, 0, 0, api.ErrForm)
			}
		}
	}
}

// want answers what the chapter tells of bytes that a reader is handed, where it knows which number has which bytes.
func want[N uint64 | int64](s string, number map[string]N) (N, int, api.Errno) {
	end := strings.IndexFunc(s[:min(len(s), 10)], func(r rune) bool { return r < 128 }) // no byte of 128 and more begins a character below 128
	if end < 0 && len(s) >= 10 {
		return 0, 0, api.ErrForm
	}
	if end < 0 {
		return 0, 0, api.ErrShort
	}
	if n, ok := number[s[:end+1]]; ok {
		return n, end + 1, api.OK
	}
	return 0, 0, api.ErrForm
}

// TestAllBytesOfTwo holds all of up to two bytes against the numbers that have so few.
func TestAllBytesOfTwo(t *testing.T) {
	u, s := map[string]uint64{}, map[string]int64{}
	for i := range uint64(1 << 14) {
		u[plain(i)] = i
		s[plainSigned(int64(i)-1<<13)] = int64(i) - 1<<13
	}
	check := func(b string) {
		n, k, e := want(b, u)
		getsU(t, b, n, k, e)
		m, k, e := want(b, s)
		getsS(t, b, m, k, e)
	}
	for i := range 256 {
		check(string([]byte{byte(i)}))
		for j := range 256 {
			check(string([]byte{byte(i), byte(j)}))
		}
	}
}

// TestOneFormAlone hands in bytes of all sorts: what is read has just the bytes that tell it.
func TestOneFormAlone(t *testing.T) {
	rnd := rand.New(rand.NewPCG(2, 3))
	some := []byte{0, 1, 2, 63, 64, 126, 127, 128, 129, 191, 192, 254, 255}
	for range 200000 {
		b := make([]byte, rnd.IntN(13))
		for i := range b {
			b[i] = some[rnd.IntN(len(some))]
			if rnd.IntN(3) > 0 && i < 9 {
				b[i] |= 128
			}
		}
		if n, k, e := leb.GetU(b); e == api.OK && plain(n) != string(b[:k]) || e != api.OK && (n != 0 || k != 0) {
			t.Fatalf("GetU(%x) = %d, %d, %d", b, n, k, e)
		}
		if n, k, e := leb.GetS(b); e == api.OK && plainSigned(n) != string(b[:k]) || e != api.OK && (n != 0 || k != 0) {
			t.Fatalf("GetS(%x) = %d, %d, %d", b, n, k, e)
		}
	}
}

func TestNoneBeginsAnother(t *testing.T) {
	l := edges()
	slices.Sort(l)
	l = slices.Compact(l)
	var u, s []string
	for _, n := range l {
		u = append(u, string(leb.U(n)))
		s = append(s, string(leb.S(int64(n))))
	}
	for _, forms := range [][]string{u, s} {
		slices.Sort(forms)
		for i := range len(forms) - 1 { // in this order what begins another one stands right ahead of such a one
			if strings.HasPrefix(forms[i+1], forms[i]) {
				t.Errorf("%x begins %x", forms[i], forms[i+1])
			}
		}
	}
}

// filled fills a list's spare room, too, with a byte.
func filled(b []byte, x byte) {
	for i := range b[:cap(b)] {
		b[:cap(b)][i] = x
	}
}

func TestNothingIsShared(t *testing.T) {
	for _, c := range []struct {
		name string
		call func() []byte
	}{
		{"U(0)", func() []byte { return leb.U(0) }},
		{"U(300)", func() []byte { return leb.U(300) }},
		{"S(0)", func() []byte { return leb.S(0) }},
		{"S(-300)", func() []byte { return leb.S(-300) }},
		{"All()", func() []byte { return leb.All() }},
		{"All(0)", func() []byte { return leb.All(0) }},
		{"All(1, 300)", func() []byte { return leb.All(1, 300) }},
	} {
		first := c.call()
		kept := bytes.Clone(first)
		second := c.call()
		filled(second, 99)
		if !bytes.Equal(first, kept) {
			t.Errorf("%s: an earlier answer became %x", c.name, first)
		}
		if third := c.call(); !bytes.Equal(third, kept) {
			t.Errorf("%s = %x behind writing on an answer", c.name, third)
		}
	}
}

func TestWhatIsHandedInStays(t *testing.T) {
	for _, s := range []string{"", "\x05", "\xac\x02", "\x80\x00", "\x80", "\xff\xff\xff\xff\xff\xff\xff\xff\xff\xff", "\x80\x80\x80\x80\x80\x80\x80\x80\x80\x01"} {
		room := append(make([]byte, 0, len(s)+4), s+"!!"...)
		leb.GetU(room[:len(s)])
		leb.GetS(room[:len(s)])
		if string(room) != s+"!!" {
			t.Errorf("what was handed in became %q", room)
		}
	}
	l := []uint64{1, 300, 3, 4}
	leb.All(l[:2]...)
	if !slices.Equal(l, []uint64{1, 300, 3, 4}) {
		t.Errorf("what was handed in became %v", l)
	}
}
