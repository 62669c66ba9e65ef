package rle_test

import (
	"bytes"
	"math"
	"math/rand/v2"
	"slices"
	"strconv"
	"strings"
	"testing"

	"inkwell/api"
	"inkwell/leb"
	"inkwell/rle"
)

// cells answers the column that a text tells: numbers, and - for nothing.
func cells(s string) []api.Cell {
	var l []api.Cell
	for _, x := range strings.Fields(s) {
		if x == "-" {
			l = append(l, api.Cell{})
			continue
		}
		n, err := strconv.ParseInt(x, 10, 64)
		if err != nil {
			panic(err)
		}
		l = append(l, api.Cell{Is: true, N: n})
	}
	return l
}

// words answers the column that a text tells: texts, . for an empty one, and - for nothing.
func words(s string) []api.Word {
	var l []api.Word
	for _, x := range strings.Fields(s) {
		switch x {
		case "-":
			l = append(l, api.Word{})
		case ".":
			l = append(l, api.Word{Is: true})
		default:
			l = append(l, api.Word{Is: true, S: x})
		}
	}
	return l
}

// face is a kind of columns: what puts and reads them, and the chapter's words of how a cell is told, and read.
type face[C comparable] struct {
	name string
	put  func(...C) []byte
	get  func([]byte, int) ([]C, api.Errno)
	tell func(C) string
	read func(string) (C, int, api.Errno)
}

// unsigned is the kind of numbers without a sign.
func unsigned() face[api.Cell] {
	return face[api.Cell]{
		"Put", rle.Put, rle.Get,
		func(c api.Cell) string { return string(leb.U(uint64(c.N))) },
		func(s string) (api.Cell, int, api.Errno) {
			n, k, e := leb.GetU([]byte(s))
			if e == api.OK && n >= 1<<63 {
				e = api.ErrLong
			}
			return api.Cell{Is: true, N: int64(n)}, k, e
		},
	}
}

// signed is the kind of numbers with a sign.
func signed() face[api.Cell] {
	return face[api.Cell]{
		"PutS", rle.PutS, rle.GetS,
		func(c api.Cell) string { return string(leb.S(c.N)) },
		func(s string) (api.Cell, int, api.Errno) {
			n, k, e := leb.GetS([]byte(s))
			return api.Cell{Is: true, N: n}, k, e
		},
	}
}

// texts is the kind of texts.
func texts() face[api.Word] {
	return face[api.Word]{
		"PutW", rle.PutW, rle.GetW,
		func(w api.Word) string { return string(leb.U(uint64(len(w.S)))) + w.S },
		func(s string) (api.Word, int, api.Errno) {
			n, k, e := leb.GetU([]byte(s))
			if e == api.OK && uint64(len(s)) < uint64(k)+n || n >= 1<<63 {
				e = api.ErrShort
			}
			if e != api.OK {
				return api.Word{}, 0, e
			}
			return api.Word{Is: true, S: s[k : k+int(n)]}, k + int(n), e
		},
	}
}

// plainPut answers a column's bytes by the chapter's words.
func (f face[C]) plainPut(l []C) string {
	var none C
	if !slices.ContainsFunc(l, func(c C) bool { return c != none }) {
		return ""
	}
	var s strings.Builder
	for len(l) > 0 {
		n := 1
		for n < len(l) && l[n] == l[0] {
			n++
		}
		switch {
		case l[0] == none:
			s.WriteString("\x00" + string(leb.U(uint64(n))))
		case n >= 2:
			s.WriteString(string(leb.S(int64(n))) + f.tell(l[0]))
		default:
			n = 0
			for n < len(l) && l[n] != none && (n+1 == len(l) || l[n] != l[n+1]) {
				n++
			}
			s.WriteString(string(leb.S(int64(-n))))
			for _, c := range l[:n] {
				s.WriteString(f.tell(c))
			}
		}
		l = l[n:]
	}
	return s.String()
}

// plainGet answers by the chapter's words what bytes tell. It makes cells of all that is told: runs must be short, where most is great.
func (f face[C]) plainGet(s string, most int) ([]C, api.Errno) {
	var l []C
	for at := 0; at < len(s); {
		n, k, e := leb.GetS([]byte(s[at:]))
		at += k
		count := uint64(max(n, -n))
		if n == 0 && e == api.OK {
			count, k, e = leb.GetU([]byte(s[at:]))
			at += k
		}
		if e != api.OK {
			return nil, e
		}
		if most < 0 || count > uint64(most-len(l)) {
			return nil, api.ErrLong
		}
		var c C
		for i := range count {
			if n < 0 || n > 0 && i == 0 {
				c, k, e = f.read(s[at:])
				if e != api.OK {
					return nil, e
				}
				at += k
			}
			l = append(l, c)
		}
	}
	if len(l) > most || f.plainPut(l) != s {
		return nil, api.ErrForm
	}
	return l, api.OK
}

// puts tells a test that a column hasn't the bytes that it should have.
func (f face[C]) puts(t *testing.T, l []C, want string) {
	t.Helper()
	if s := string(f.put(l...)); s != want {
		t.Errorf("%s(%#v) = %x; want %x", f.name, l, s, want)
	}
}

// gets tells a test that bytes aren't read as they should be; bytes behind them, in spare room, count for nothing.
func (f face[C]) gets(t *testing.T, s string, most int, want []C, e api.Errno) {
	t.Helper()
	b := append([]byte(s), 0, 0, 0)
	l, x := f.get(b[:len(s)], most)
	if x != e || !slices.Equal(l, want) {
		t.Errorf("reading by the kind of %s of %x, at most %d: %#v, %d; want %#v, %d", f.name, s, most, l, x, want, e)
	}
}

// both tells a test that a column hasn't such bytes, or that it isn't read from them, at just as many cells as it has, and at more.
func (f face[C]) both(t *testing.T, l []C, s string) {
	t.Helper()
	f.puts(t, l, s)
	if s == "" {
		l = nil
	}
	for _, most := range []int{len(l), len(l) + 1, math.MaxInt} {
		f.gets(t, s, most, l, api.OK)
	}
	for _, most := range []int{len(l) - 1, len(l) / 2, 0} {
		if s != "" && most < len(l) {
			f.gets(t, s, most, nil, api.ErrLong)
		}
	}
}

func TestNumbersWithoutSign(t *testing.T) {
	for _, c := range []struct{ l, s string }{
		{"5 5 5 - 7", "\x03\x05\x00\x01\x7f\x07"}, // the chapter's example
		{"", ""},
		{"-", ""},
		{"- - - - -", ""},
		{"0", "\x7f\x00"},
		{"0 0", "\x02\x00"},
		{"7", "\x7f\x07"},
		{"7 7", "\x02\x07"},
		{"1 2", "\x7e\x01\x02"},
		{"1 2 1 2", "\x7c\x01\x02\x01\x02"},
		{"1 1 2 2", "\x02\x01\x02\x02"},
		{"1 2 2", "\x7f\x01\x02\x02"},
		{"1 1 2", "\x02\x01\x7f\x02"},
		{"1 2 2 1", "\x7f\x01\x02\x02\x7f\x01"},
		{"1 1 2 1 1", "\x02\x01\x7f\x02\x02\x01"},
		{"1 2 3 3 4 5", "\x7e\x01\x02\x02\x03\x7e\x04\x05"},
		{"- 1", "\x00\x01\x7f\x01"},
		{"1 -", "\x7f\x01\x00\x01"},
		{"- - 1 - -", "\x00\x02\x7f\x01\x00\x02"},
		{"1 - 1", "\x7f\x01\x00\x01\x7f\x01"},
		{"1 1 - 1 1", "\x02\x01\x00\x01\x02\x01"},
		{"- 0 - 0 0 -", "\x00\x01\x7f\x00\x00\x01\x02\x00\x00\x01"},
		{"127 128 300", "\x7d\x7f\x80\x01\xac\x02"},
		{"9007199254740991 9007199254740991", "\x02\xff\xff\xff\xff\xff\xff\xff\x0f"},
		{"9223372036854775807", "\x7f\xff\xff\xff\xff\xff\xff\xff\xff\x7f"},
	} {
		unsigned().both(t, cells(c.l), c.s)
	}
}

func TestNumbersWithSign(t *testing.T) {
	for _, c := range []struct{ l, s string }{
		{"", ""},
		{"- -", ""},
		{"0", "\x7f\x00"},
		{"-1", "\x7f\x7f"},
		{"-1 -1 - 64", "\x02\x7f\x00\x01\x7f\xc0\x00"},
		{"1 -1", "\x7e\x01\x7f"},
		{"63 -64 -65", "\x7d\x3f\x40\xbf\x7f"},
		{"- -2 -2", "\x00\x01\x02\x7e"},
		{"9223372036854775807 -9223372036854775808", "\x7e\xff\xff\xff\xff\xff\xff\xff\xff\xff\x00\x80\x80\x80\x80\x80\x80\x80\x80\x80\x7f"},
	} {
		signed().both(t, cells(c.l), c.s)
	}
}

func TestTexts(t *testing.T) {
	for _, c := range []struct{ l, s string }{
		{"", ""},
		{"-", ""},
		{".", "\x7f\x00"},
		{". .", "\x02\x00"},
		{". -", "\x7f\x00\x00\x01"},
		{"- . - .", "\x00\x01\x7f\x00\x00\x01\x7f\x00"},
		{"hi hi - .", "\x02\x02hi\x00\x01\x7f\x00"},
		{"a b b a", "\x7f\x01a\x02\x01b\x7f\x01a"},
		{"a A aa", "\x7d\x01a\x01A\x02aa"},
		{"€ €", "\x02\x03\xe2\x82\xac"},
		{"\x00 \xff\xfe \x80", "\x7d\x01\x00\x02\xff\xfe\x01\x80"}, // texts of a column need not be UTF-8
		{strings.Repeat("x", 127), "\x7f\x7f" + strings.Repeat("x", 127)},
		{strings.Repeat("x", 128), "\x7f\x80\x01" + strings.Repeat("x", 128)},
		{strings.Repeat("xy", 150) + " " + strings.Repeat("xy", 150), "\x02\xac\x02" + strings.Repeat("xy", 150)},
	} {
		texts().both(t, words(c.l), c.s)
	}
}

// TestLongRuns holds runs at which the number of bytes of how many they are changes.
func TestLongRuns(t *testing.T) {
	mixed := func(n int) []api.Cell {
		l := make([]api.Cell, n)
		for i := range l {
			l[i] = api.Cell{Is: true, N: int64(1 + i%2)}
		}
		return l
	}
	told := func(n int) string { return strings.Repeat("\x01\x02", n/2) + strings.Repeat("\x01", n%2) }
	five, none := cells("5"), cells("-")
	for _, c := range []struct {
		l []api.Cell
		s string
	}{
		{slices.Repeat(five, 63), "\x3f\x05"},
		{slices.Repeat(five, 64), "\xc0\x00\x05"},
		{slices.Repeat(five, 8191), "\xff\x3f\x05"},
		{slices.Repeat(five, 8192), "\x80\xc0\x00\x05"},
		{slices.Repeat(five, 1<<20), "\x80\x80\xc0\x00\x05"},
		{append(slices.Repeat(none, 127), five...), "\x00\x7f\x7f\x05"},
		{append(slices.Repeat(none, 128), five...), "\x00\x80\x01\x7f\x05"},
		{append(cells("5"), slices.Repeat(none, 1<<14)...), "\x7f\x05\x00\x80\x80\x01"},
		{mixed(64), "\x40" + told(64)},
		{mixed(65), "\xbf\x7f" + told(65)},
		{mixed(8192), "\x80\x40" + told(8192)},
		{mixed(8193), "\xff\xbf\x7f" + told(8193)},
	} {
		if s := string(rle.Put(c.l...)); s != c.s {
			t.Errorf("Put of %d cells: %.20x", len(c.l), s)
		}
		if l, e := rle.Get([]byte(c.s), len(c.l)); e != api.OK || !slices.Equal(l, c.l) {
			t.Errorf("Get of %.20x: %d cells, %d", c.s, len(l), e)
		}
		if l, e := rle.Get([]byte(c.s), len(c.l)-1); e != api.ErrLong || len(l) != 0 {
			t.Errorf("Get of %.20x, one cell fewer: %d cells, %d", c.s, len(l), e)
		}
	}
}

// columns answers all columns of so many cells at most, of some cells.
func columns[C any](some []C, most int) [][]C {
	all := [][]C{nil}
	for ahead := all; most > 0; most-- {
		var longer [][]C
		for _, l := range ahead {
			for _, c := range some {
				longer = append(longer, append(slices.Clone(l), c))
			}
		}
		all = append(all, longer...)
		ahead = longer
	}
	return all
}

// all holds all short columns of some cells against the chapter's words.
func (f face[C]) all(t *testing.T, some []C, most int) {
	t.Helper()
	forms := map[string]bool{"": true}
	for _, l := range columns(some, most) {
		s := f.plainPut(l)
		f.both(t, l, s)
		if s != "" && forms[s] {
			t.Errorf("%s: two columns have the bytes %x", f.name, s)
		}
		forms[s] = true
	}
}

func TestAllShortColumns(t *testing.T) {
	unsigned().all(t, cells("- 0 1 2"), 7)
	unsigned().all(t, cells("- 128 300 127"), 5)
	signed().all(t, cells("- 0 -1 1"), 7)
	signed().all(t, cells("- -65 64 -9223372036854775808"), 5)
	texts().all(t, words("- . a aa"), 7)
}

// draw answers a drawn column of n cells, in which many are like the one ahead.
func draw[C any](rnd *rand.Rand, n int, some []C) []C {
	l := make([]C, n)
	often := 1 + rnd.IntN(8)
	for i := range l {
		if i > 0 && rnd.IntN(often) > 0 {
			l[i] = l[i-1]
		} else {
			l[i] = some[rnd.IntN(len(some))]
		}
	}
	return l
}

// drawn holds drawn columns, beginnings of their bytes, and what becomes of these when some are others, against the chapter's words.
func (f face[C]) drawn(t *testing.T, rnd *rand.Rand, some []C) {
	t.Helper()
	for range 1500 {
		l := draw(rnd, rnd.IntN(200), some)
		s := f.plainPut(l)
		f.both(t, l, s)
		for range 20 {
			b := []byte(s[:rnd.IntN(len(s)+1)])
			for range rnd.IntN(3) {
				if len(b) > 0 {
					b[rnd.IntN(len(b))] = byte(rnd.IntN(256))
				}
			}
			most := rnd.IntN(300) - 1
			want, e := f.plainGet(string(b), most)
			f.gets(t, string(b), most, want, e)
		}
		if t.Failed() {
			return
		}
	}
}

func TestDrawnColumns(t *testing.T) {
	rnd := rand.New(rand.NewPCG(11, 1))
	unsigned().drawn(t, rnd, cells("- - 0 1 2 127 128 300 9007199254740991 9223372036854775807"))
	signed().drawn(t, rnd, cells("- - 0 1 -1 63 64 -64 -65 300 -9223372036854775808 9223372036854775807"))
	texts().drawn(t, rnd, append(words("- - . a b aa ab \x00 \xff €"), api.Word{Is: true, S: strings.Repeat("long ", 30)}))
}

// noOthers goes through all bytes of some letters, of so many at most: just those of a column of some cells are read.
func (f face[C]) noOthers(t *testing.T, letters string, length int, some []C, most int) {
	t.Helper()
	column := map[string][]C{"": nil}
	for _, l := range columns(some, most) {
		if s := f.plainPut(l); s != "" {
			column[s] = l
		}
	}
	for _, b := range columns([]byte(letters), length) {
		want, ok := column[string(b)]
		l, e := f.plainGet(string(b), most)
		if ok != (e == api.OK) || !slices.Equal(l, want) {
			t.Fatalf("the test's own reading of %x is %v, %d", b, l, e)
		}
		f.gets(t, string(b), most, want, e)
		if t.Failed() {
			return
		}
	}
}

func TestNoOtherBytesAreRead(t *testing.T) {
	// The cells are all that bytes of these letters can tell, and the bytes as many as so many cells can have.
	letters := "\x00\x01\x02\x03\x7d\x7e\x7f"
	unsigned().noOthers(t, letters, 6, cells("- 0 1 2 3 125 126 127"), 3)
	signed().noOthers(t, letters, 6, cells("- 0 1 2 3 -3 -2 -1"), 3)
	var some []api.Word
	for _, s := range columns([]byte("\x00\x01\x02\x7e\x7f"), 2) {
		some = append(some, api.Word{Is: true, S: string(s)})
	}
	texts().noOthers(t, "\x00\x01\x02\x7e\x7f", 7, append(some, api.Word{}), 2)
}

// TestAllBytesOfThree goes through all numbers of one byte, and of two, that stand in a run's place.
func TestAllBytesOfThree(t *testing.T) {
	for i := range 1 << 16 {
		for _, behind := range []string{"", "\x05", "\x80"} {
			s := string([]byte{byte(i), byte(i >> 8)}) + behind
			for _, most := range []int{2, 70} {
				l, e := unsigned().plainGet(s, most)
				unsigned().gets(t, s, most, l, e)
				l, e = signed().plainGet(s, most)
				signed().gets(t, s, most, l, e)
				w, e := texts().plainGet(s, most)
				texts().gets(t, s, most, w, e)
			}
		}
	}
}

// TestOtherForms hands in bytes that tell cells, but not as the column of these has them.
func TestOtherForms(t *testing.T) {
	for _, c := range []struct{ name, s string }{
		{"a run of one", "\x01\x05"},
		{"a run of one behind another cell", "\x7f\x04\x01\x05"},
		{"a run of one behind nothing", "\x00\x01\x01\x05"},
		{"a run in two", "\x02\x05\x02\x05"},
		{"a run, and one more", "\x02\x05\x7f\x05"},
		{"one, and a run of it", "\x7f\x05\x02\x05"},
		{"a run, and others that begin with it", "\x02\x05\x7e\x05\x06"},
		{"others that end with what is a run", "\x7e\x06\x05\x02\x05"},
		{"others in two", "\x7f\x05\x7f\x06"},
		{"others in two, of which the first has two", "\x7e\x05\x06\x7f\x07"},
		{"others that are alike", "\x7e\x05\x05"},
		{"others of which the last two are alike", "\x7d\x04\x05\x05"},
		{"others of which the first two are alike", "\x7d\x05\x05\x04"},
		{"nothing alone", "\x00\x01"},
		{"nothing alone, more of it", "\x00\x09"},
		{"none of nothing", "\x00\x00"},
		{"none of nothing ahead", "\x00\x00\x7f\x05"},
		{"none of nothing behind", "\x7f\x05\x00\x00"},
		{"none of nothing in a run", "\x02\x05\x00\x00\x02\x05"},
		{"none of nothing behind nothing", "\x00\x01\x00\x00\x7f\x05"},
		{"nothing in two", "\x00\x01\x00\x01\x7f\x05"},
		{"nothing alone in two", "\x00\x01\x00\x01"},
		{"nothing in two at the end", "\x7f\x05\x00\x02\x00\x01"},
	} {
		for _, most := range []int{9, math.MaxInt} {
			for _, f := range []face[api.Cell]{unsigned(), signed()} {
				if l, e := f.get([]byte(c.s), most); e != api.ErrForm || len(l) != 0 {
					t.Errorf("%s, by the kind of %s: %v, %d", c.name, f.name, l, e)
				}
			}
		}
	}
	for _, s := range []string{
		"\x01\x01a", "\x01\x00", "\x02\x01a\x02\x01a", "\x7f\x00\x7f\x01a", "\x7e\x01a\x01a", "\x7e\x00\x00", "\x02\x00\x7f\x00",
		"\x00\x03", "\x00\x00", "\x7f\x00\x00\x00", "\x00\x01\x00\x01\x7f\x00",
	} {
		texts().gets(t, s, 9, nil, api.ErrForm)
	}
}

// TestErrors holds each error, and which of several comes first, at most nine cells.
func TestErrors(t *testing.T) {
	great := strings.Repeat("\x80", 9) + "\x01" // 2^63, without a sign
	for _, c := range []struct {
		name, s string
		e       api.Errno
	}{
		{"a run's number ends too soon", "\x80", api.ErrShort},
		{"likewise behind a run", "\x02\x05\x82", api.ErrShort},
		{"a run's number in a longer form", "\x82\x00\x05", api.ErrForm},
		{"a run's number below 0 in a longer form", "\xff\x7f\x05", api.ErrForm},
		{"a run's number without an end", strings.Repeat("\x80", 10), api.ErrForm},
		{"a run's number is 2^63", strings.Repeat("\x80", 9) + "\x01", api.ErrForm},
		{"the number of nothing isn't there", "\x00", api.ErrShort},
		{"the number of nothing ends too soon", "\x00\x80", api.ErrShort},
		{"the number of nothing in a longer form", "\x00\x81\x00", api.ErrForm},
		{"the number of nothing is 2^64", "\x00" + strings.Repeat("\x80", 9) + "\x02", api.ErrForm},
		{"ten of nothing", "\x00\x0a", api.ErrLong},
		{"ten of nothing behind a wrong run", "\x01\x05\x00\x0a", api.ErrLong},
		{"2^63 of nothing", "\x00" + great, api.ErrLong},
		{"2^64 - 1 of nothing", "\x00" + strings.Repeat("\xff", 9) + "\x01", api.ErrLong},
		{"2^64 - 1 of nothing behind a run", "\x02\x05\x00" + strings.Repeat("\xff", 9) + "\x01", api.ErrLong},
		{"nine of nothing", "\x00\x09", api.ErrForm},
		{"ten alike", "\x0a\x05", api.ErrLong},
		{"ten alike, of which nothing is told", "\x0a", api.ErrLong},
		{"ten alike, of which too little is told", "\x0a\x80", api.ErrLong},
		{"ten alike, told in a longer form", "\x0a\x85\x00", api.ErrLong},
		{"2^63 - 1 alike", strings.Repeat("\xff", 9) + "\x00", api.ErrLong},
		{"2^63 - 1 alike behind two", "\x02\x05" + strings.Repeat("\xff", 9) + "\x00", api.ErrLong},
		{"ten others", "\x76\x01\x02\x03\x04\x05\x06\x07\x08\x09\x0a", api.ErrLong},
		{"ten others, of which none is told", "\x76", api.ErrLong},
		{"ten others, of which the first is wrong", "\x76\x81\x00", api.ErrLong},
		{"2^63 others", strings.Repeat("\x80", 9) + "\x7f", api.ErrLong},
		{"2^63 others behind one", "\x7f\x05" + strings.Repeat("\x80", 9) + "\x7f", api.ErrLong},
		{"five and five", "\x05\x01\x05\x02", api.ErrLong},
		{"five and five, the second cell untold", "\x05\x01\x05", api.ErrLong},
		{"eight and two others", "\x08\x01\x7e\x02\x03", api.ErrLong},
		{"others and nothing", "\x7e\x01\x02\x00\x08", api.ErrLong},
		{"nine that are alike, in a wrong form, and one more", "\x01\x05\x08\x05\x7f\x06", api.ErrLong},
		{"a cell of a run isn't there", "\x09", api.ErrShort},
		{"a cell of a run ends too soon", "\x09\x80", api.ErrShort},
		{"a cell of a run in a longer form", "\x02\x85\x00", api.ErrForm},
		{"a cell of others isn't there", "\x7f", api.ErrShort},
		{"a second cell of others isn't there", "\x7e\x05", api.ErrShort},
		{"a second cell of others ends too soon", "\x7e\x05\x85", api.ErrShort},
		{"a second cell of others in a longer form", "\x7e\x05\x86\x00", api.ErrForm},
		{"a cell without an end", "\x02" + strings.Repeat("\xff", 10), api.ErrForm},
		{"a wrong form, and what ends too soon behind it", "\x01\x05\x02", api.ErrShort},
		{"none of nothing, and what ends too soon behind it", "\x00\x00\x7f", api.ErrShort},
		{"nothing in two, and too much behind it", "\x00\x01\x00\x01\x08\x05", api.ErrLong},
		{"a cell in a longer form, and too many behind it", "\x7f\x85\x00\x0a\x05", api.ErrForm},
		{"too many, and a cell in a longer form behind them", "\x0a\x05\x7f\x85\x00", api.ErrLong},
		{"a cell that ends too soon is not found behind too many", "\x05\x01\x06\x02\x7f", api.ErrLong},
	} {
		for _, f := range []face[api.Cell]{unsigned(), signed()} {
			if l, e := f.get([]byte(c.s), 9); e != c.e || len(l) != 0 {
				t.Errorf("%s, by the kind of %s: %v, %d; want %d", c.name, f.name, l, e, c.e)
			}
		}
	}
}

// TestGreatNumbers holds what a cell can't hold.
func TestGreatNumbers(t *testing.T) {
	sevens := strings.Repeat("\xff", 8)
	for _, c := range []struct {
		s string
		e api.Errno
	}{
		{sevens + "\xff\x01", api.ErrLong},                // 2^64 - 1
		{strings.Repeat("\x80", 9) + "\x01", api.ErrLong}, // 2^63
		{"\x81" + strings.Repeat("\x80", 8) + "\x01", api.ErrLong},
		{sevens + "\xff\x02", api.ErrForm},
	} {
		unsigned().gets(t, "\x7f"+c.s, 9, nil, c.e)
		unsigned().gets(t, "\x02"+c.s, 9, nil, c.e)
		unsigned().gets(t, "\x7e\x05"+c.s, 9, nil, c.e)
		unsigned().gets(t, "\x01"+c.s, 9, nil, c.e)
		unsigned().gets(t, "\x7e"+c.s+"\x80", 9, nil, c.e)
		unsigned().gets(t, "\x7f"+c.s+"\x0a\x05", 9, nil, c.e)
		unsigned().gets(t, "\x0a"+c.s, 9, nil, api.ErrLong)
		unsigned().gets(t, "\x01\x05\x7e\x05"+c.s, 9, nil, c.e)
	}
	greatest := cells("9223372036854775807")
	unsigned().gets(t, "\x7f"+sevens+"\x7f", 1, greatest, api.OK)
	signed().gets(t, "\x7f"+sevens+"\xff\x00", 1, greatest, api.OK)
	signed().gets(t, "\x7f"+strings.Repeat("\x80", 9)+"\x01", 9, nil, api.ErrForm)
}

func TestTextsThatEndTooSoon(t *testing.T) {
	for _, c := range []struct {
		s string
		e api.Errno
	}{
		{"\x7f", api.ErrShort},
		{"\x7f\x80", api.ErrShort},
		{"\x7f\x81\x00a", api.ErrForm},
		{"\x7f\x01", api.ErrShort},
		{"\x7f\x03hi", api.ErrShort},
		{"\x02\x03hi", api.ErrShort},
		{"\x7e\x02hi", api.ErrShort},
		{"\x7e\x02hi\x02h", api.ErrShort},
		{"\x01\x03hi", api.ErrShort},             // rather than of a wrong form
		{"\x0a\x03hi", api.ErrLong},              // too many, as is known ahead of it
		{"\x7e\x01a\x01a\x7f\x01", api.ErrShort}, // likewise behind cells that are alike
		{"\x7f\x7f" + strings.Repeat("x", 126), api.ErrShort},
		{"\x7f\xff\xff\xff\xff\xff\xff\xff\xff\x7fa", api.ErrShort},     // 2^63 - 1 bytes
		{"\x7f\x80\x80\x80\x80\x80\x80\x80\x80\x80\x01a", api.ErrShort}, // 2^63
		{"\x7f\xff\xff\xff\xff\xff\xff\xff\xff\xff\x01a", api.ErrShort}, // 2^64 - 1
		{"\x7f\xff\xff\xff\xff\xff\xff\xff\xff\xff\x02a", api.ErrForm},
	} {
		texts().gets(t, c.s, 9, nil, c.e)
	}
}

// TestMost holds how many cells there may be, at its edges.
func TestMost(t *testing.T) {
	for _, most := range []int{-1, -2, math.MinInt} {
		unsigned().gets(t, "", most, nil, api.ErrForm) // no cells are more than that, but there is no run
		signed().gets(t, "", most, nil, api.ErrForm)
		texts().gets(t, "", most, nil, api.ErrForm)
		for _, s := range []string{"\x7f\x05", "\x02\x05", "\x01\x05", "\x00\x01", "\x00\x00", "\x00\xff\xff\xff\xff\xff\xff\xff\xff\xff\x01", "\x7f"} {
			unsigned().gets(t, s, most, nil, api.ErrLong)
			signed().gets(t, s, most, nil, api.ErrLong)
			texts().gets(t, s, most, nil, api.ErrLong)
		}
		unsigned().gets(t, "\x80", most, nil, api.ErrShort)
		unsigned().gets(t, "\x00", most, nil, api.ErrShort)
		unsigned().gets(t, "\x80\x00", most, nil, api.ErrForm)
	}
	for _, most := range []int{0, 1, math.MaxInt} {
		unsigned().gets(t, "", most, nil, api.OK)
		signed().gets(t, "", most, nil, api.OK)
		texts().gets(t, "", most, nil, api.OK)
	}
	unsigned().gets(t, "\x00\x00", 0, nil, api.ErrForm)
	unsigned().gets(t, "\x00\x01", 0, nil, api.ErrLong)
	unsigned().gets(t, "\x7f\x05", 0, nil, api.ErrLong)
	unsigned().gets(t, "\x7f\x05", 1, cells("5"), api.OK)
	unsigned().gets(t, "\x7f\x05\x00\x00", 1, nil, api.ErrForm)
	unsigned().gets(t, "\x7f\x05\x00\x01", 1, nil, api.ErrLong)
}

// TestRunsBeyondMemory hands in few bytes that tell very many cells, and aren't a column's at last.
func TestRunsBeyondMemory(t *testing.T) {
	whole := "\xff\xff\xff\xff\xff\xff\xff\xff"
	for _, c := range []struct {
		s string
		e api.Errno
	}{
		{"\x00" + whole + "\x7f", api.ErrForm},                         // 2^63 - 1 of nothing
		{"\x00" + whole + "\x7f\x00\x00", api.ErrForm},                 // and none more
		{"\x00" + whole + "\x7f\x00\x01", api.ErrLong},                 // and one more
		{"\x00" + whole + "\xff\x01", api.ErrLong},                     // 2^64 - 1 of nothing
		{whole + "\xff\x00", api.ErrShort},                             // 2^63 - 1 alike, of which nothing is told
		{whole + "\xff\x00\x85\x00", api.ErrForm},                      // told in a longer form
		{whole + "\x3f\x05\x01\x05", api.ErrForm},                      // 2^62 - 1 alike, and one more of them
		{whole + "\x3f\x05" + whole + "\xff\x00\x05", api.ErrLong},     // and 2^63 - 1 more
		{"\x7f\x05" + whole + "\xff\x00\x06", api.ErrLong},             // one, and 2^63 - 1
		{"\x80\x80\x80\x80\x80\x80\x80\x80\x80\x7f\x05", api.ErrLong},  // 2^63 others
		{"\x81\x80\x80\x80\x80\x80\x80\x80\x80\x7f\x05", api.ErrShort}, // 2^63 - 1 others, of which one is told
	} {
		unsigned().gets(t, c.s, math.MaxInt, nil, c.e)
	}
	// Beyond what is promised: no memory holds it, but the call ends.
	for _, s := range []string{whole + "\x3f\x05", "\x80\x80\x80\x80\x08\x05", "\x7f\x05\x00" + whole + "\x3f"} {
		if l, e := rle.Get([]byte(s), math.MaxInt); e == api.OK || len(l) != 0 {
			t.Errorf("Get(%x): %d cells, %d", s, len(l), e)
		}
	}
}

// TestWhatMayNotBe hands in columns of which nothing is promised, but that the calls end.
func TestWhatMayNotBe(t *testing.T) {
	for _, l := range [][]api.Cell{cells("-1"), cells("-1 -1 5"), cells("-9223372036854775808"), {{N: 5}}, {{N: 5}, {}, {N: 5}}} {
		rle.Put(l...)
		rle.PutS(l...)
	}
	rle.PutW(api.Word{S: "a"}, api.Word{}, api.Word{S: "a"})
}

// fill fills a list's spare room, too.
func fill[T any](l []T, x T) {
	for i := range l[:cap(l)] {
		l[:cap(l)][i] = x
	}
}

// alone tells a test where an answer shares memory with another one, or with what was handed in.
func (f face[C]) alone(t *testing.T, l []C, other C) {
	t.Helper()
	kept := slices.Clone(l)
	first := f.put(l...)
	s := string(first)
	fill(f.put(l...), 99)
	if string(first) != s || string(f.put(l...)) != s {
		t.Errorf("%s: an answer became %x, behind writing on another one", f.name, first)
	}
	read, _ := f.get(first, len(l))
	again, _ := f.get(first, len(l))
	fill(again, other)
	if string(first) != s || !slices.Equal(read, l) {
		t.Errorf("%s: an answer became %v, behind writing on another one", f.name, read)
	}
	fill(first, 99)
	if !slices.Equal(read, kept) || !slices.Equal(l, kept) {
		t.Errorf("%s: an answer became %v, behind writing on what was handed in", f.name, read)
	}
}

func TestNothingIsShared(t *testing.T) {
	for _, s := range []string{"7", "5 5 5 - 7", "1 2 3 4", "300 300 - - 300", "- - 1"} {
		unsigned().alone(t, cells(s), api.Cell{Is: true, N: 99})
		signed().alone(t, cells(s), api.Cell{Is: true, N: 99})
		texts().alone(t, words(s), api.Word{Is: true, S: "other"})
	}
}

// stays tells a test where what is handed in becomes another one, spare room included.
func (f face[C]) stays(t *testing.T, l []C, other C) {
	t.Helper()
	room := append(slices.Clone(l), other, other)
	kept := slices.Clone(room)
	b := f.put(room[:len(l)]...)
	if !slices.Equal(room, kept) {
		t.Errorf("%s: what was handed in became %v", f.name, room)
	}
	for n := range len(b) + 1 {
		of := append(bytes.Clone(b), "!!"...)
		for _, most := range []int{-1, 0, 1, len(l)} {
			f.get(of[:n], most)
		}
		if string(of) != string(b)+"!!" {
			t.Errorf("%s: what was read became %x", f.name, of)
		}
	}
}

func TestWhatIsHandedInStays(t *testing.T) {
	for _, s := range []string{"", "-", "7", "5 5 5 - 7", "1 2 3 3 4", "300 300 - - 300"} {
		unsigned().stays(t, cells(s), api.Cell{Is: true, N: 5})
		signed().stays(t, cells(s), api.Cell{Is: true, N: 5})
		texts().stays(t, words(s), api.Word{Is: true, S: "5"})
	}
}
