package dir_test

import (
	"bytes"
	"fmt"
	"math"
	"math/rand/v2"
	"slices"
	"strings"
	"testing"

	"inkwell/api"
	"inkwell/dir"
	"inkwell/leb"
)

// brief answers what is told of anything, but its middle, if it is long.
func brief(x any) string {
	s := fmt.Sprintf("%x", x)
	if len(s) <= 400 {
		return s
	}
	return s[:200] + " .. " + s[len(s)-200:]
}

// col answers a column of a number with bytes.
func col(id int, s string) dir.Col {
	return dir.Col{Id: id, Data: []byte(s)}
}

// same tells whether columns are the same, field by field.
func same(x, y []dir.Col) bool {
	return slices.EqualFunc(x, y, func(x, y dir.Col) bool { return x.Id == y.Id && bytes.Equal(x.Data, y.Data) })
}

// full answers the columns that have bytes.
func full(l []dir.Col) []dir.Col {
	var with []dir.Col
	for _, c := range l {
		if len(c.Data) > 0 {
			with = append(with, c)
		}
	}
	return with
}

// plainPut answers columns' bytes by the chapter's words.
func plainPut(l []dir.Col) string {
	with := full(l)
	b := string(leb.U(uint64(len(with))))
	for _, c := range with {
		b += string(leb.U(uint64(c.Id))) + string(leb.U(uint64(len(c.Data))))
	}
	for _, c := range with {
		b += string(c.Data)
	}
	return b
}

// plainNumber answers the number at a place, and where it ends, by chapter 2's words.
func plainNumber(b string, at int) (uint64, int, api.Errno) {
	n, k, e := leb.GetU([]byte(b[at:]))
	return n, at + k, e
}

// plainGet answers by the chapter's words which columns bytes tell.
func plainGet(b string) ([]dir.Col, api.Errno) {
	count, at, e := plainNumber(b, 0)
	if e != api.OK {
		return nil, e
	}
	if count > 64 {
		return nil, api.ErrLong
	}
	var ids, sizes []int
	for i := range int(count) {
		var id, size uint64
		if id, at, e = plainNumber(b, at); e != api.OK {
			return nil, e
		}
		if id > 1048576 {
			return nil, api.ErrLong
		}
		if size, at, e = plainNumber(b, at); e != api.OK {
			return nil, e
		}
		if size > 1048576 {
			return nil, api.ErrLong
		}
		if i > 0 && int(id) <= ids[i-1] || size == 0 {
			return nil, api.ErrForm
		}
		ids, sizes = append(ids, int(id)), append(sizes, int(size))
	}
	var l []dir.Col
	for i, id := range ids {
		if len(b)-at < sizes[i] {
			return nil, api.ErrShort
		}
		l = append(l, col(id, b[at:at+sizes[i]]))
		at += sizes[i]
	}
	if at < len(b) {
		return nil, api.ErrForm
	}
	return l, api.OK
}

// gets tells a test that bytes aren't read as they should be; bytes behind them, in spare room, count for nothing.
func gets(t *testing.T, b string, want []dir.Col, e api.Errno) {
	t.Helper()
	room := append([]byte(b), "\x05\x01a"...)
	l, x := dir.Get(room[:len(b)])
	if x != e || !same(l, want) {
		t.Errorf("Get(%s) = %s, %d; want %s, %d", brief(b), brief(l), x, brief(want), e)
	}
}

// both tells a test that columns haven't such bytes, or aren't read from them as they were, without those that have none.
func both(t *testing.T, l []dir.Col, b string) {
	t.Helper()
	if x := dir.Put(l...); string(x) != b {
		t.Errorf("Put(%s) = %s; want %s", brief(l), brief(x), brief(b))
	}
	gets(t, b, full(l), api.OK)
}

func TestColumns(t *testing.T) {
	for _, c := range []struct {
		l []dir.Col
		b string
	}{
		{[]dir.Col{col(5, "\x01\x02")}, "\x01\x05\x02\x01\x02"}, // the chapter's example
		{nil, "\x00"},
		{[]dir.Col{}, "\x00"},
		{[]dir.Col{{Id: 5}}, "\x00"},
		{[]dir.Col{{Id: 0}, {Id: 1, Data: []byte{}}, {Id: 1 << 20}}, "\x00"},
		{[]dir.Col{col(0, "a")}, "\x01\x00\x01a"},
		{[]dir.Col{col(0, "\x00")}, "\x01\x00\x01\x00"},
		{[]dir.Col{col(0, "a"), col(1, "bc")}, "\x02\x00\x01\x01\x02abc"},
		{[]dir.Col{col(1, "ab"), {Id: 2}, col(300, "c")}, "\x02\x01\x02\xac\x02\x01abc"},
		{[]dir.Col{{Id: 1}, col(2, "ab"), {Id: 3}}, "\x01\x02\x02ab"},
		{[]dir.Col{col(127, "a"), col(128, "b")}, "\x02\x7f\x01\x80\x01\x01ab"},
		{[]dir.Col{col(1<<20-1, "a"), col(1<<20, "b")}, "\x02\xff\xff\x3f\x01\x80\x80\x40\x01ab"},
		{[]dir.Col{col(7, strings.Repeat("x", 127)), col(8, strings.Repeat("y", 128))}, "\x02\x07\x7f\x08\x80\x01" + strings.Repeat("x", 127) + strings.Repeat("y", 128)},
		{[]dir.Col{col(7, strings.Repeat("x", 1<<20))}, "\x01\x07\x80\x80\x40" + strings.Repeat("x", 1<<20)},
	} {
		both(t, c.l, c.b)
	}
}

// TestMost holds as many columns as there may be, those without bytes not counted, and one more.
func TestMost(t *testing.T) {
	if dir.Most != 64 {
		t.Errorf("Most is %d", dir.Most)
	}
	var l []dir.Col
	for i := range 63 {
		l = append(l, col(2*i, strings.Repeat("z", 1+i%3)), dir.Col{Id: 2*i + 1})
	}
	both(t, l, plainPut(l))
	l = append(l, col(1<<20, "last"))
	both(t, l, plainPut(l))
	b := plainPut(l)
	gets(t, "\x41"+b[1:], nil, api.ErrLong)
	gets(t, "\x3f"+b[1:], nil, api.ErrForm)
	greatest := make([]dir.Col, 64)
	for i := range greatest {
		greatest[i] = dir.Col{Id: i, Data: bytes.Repeat([]byte{byte(i)}, api.MaxBody)}
	}
	both(t, greatest, plainPut(greatest))
}

func TestFind(t *testing.T) {
	l := []dir.Col{col(9, "nine"), col(3, "three"), {Id: 4}, col(3, "other"), col(4, "four"), col(-1, "below"), col(math.MaxInt, "great"), col(0, "\x00")}
	for _, c := range []struct {
		id   int
		want string
	}{{9, "nine"}, {3, "three"}, {4, ""}, {0, "\x00"}, {-1, "below"}, {math.MaxInt, "great"}, {5, ""}, {-9, ""}, {math.MinInt, ""}} {
		if b := dir.Find(l, c.id); string(b) != c.want {
			t.Errorf("Find(%d) = %x; want %x", c.id, b, c.want)
		}
		if b := dir.Find(nil, c.id); len(b) != 0 {
			t.Errorf("Find of none, %d = %x", c.id, b)
		}
	}
}

// TestErrors holds which error is the first, where several things are wrong.
func TestErrors(t *testing.T) {
	long := strings.Repeat("\x80", 10)
	great := string(leb.U(math.MaxUint64))
	for _, c := range []struct {
		name, b string
		e       api.Errno
	}{
		{"no bytes", "", api.ErrShort},
		{"how many, that ends too soon", "\x80", api.ErrShort},
		{"how many, in a longer form", "\x80\x00", api.ErrForm},
		{"how many, of more than ten bytes", long, api.ErrForm},
		{"65", "\x41", api.ErrLong},
		{"65, and a number that ends too soon", "\x41\x80", api.ErrLong},
		{"128", "\x80\x01", api.ErrLong},
		{"2^64 - 1", great, api.ErrLong},
		{"64, of which none is there", "\x40", api.ErrShort},
		{"none, and a byte", "\x00x", api.ErrForm},
		{"none, and a column of nothing", "\x00\x05\x00", api.ErrForm},
		{"a number of a column that ends too soon", "\x01\x81", api.ErrShort},
		{"a number of a column in a longer form", "\x01\x85\x00\x01a", api.ErrForm},
		{"a number of a column of more than ten bytes", "\x01" + long + "\x00\x01a", api.ErrForm},
		{"a number of a column of 2^20 + 1", "\x01\x81\x80\x40\x01a", api.ErrLong},
		{"a number of a column of 2^20 + 1, alone", "\x01\x81\x80\x40", api.ErrLong},
		{"a number of a column of 2^20 + 1, and no bytes", "\x01\x81\x80\x40\x00", api.ErrLong},
		{"a number of a column of 2^20 + 1, and how many in a longer form", "\x01\x81\x80\x40\x81\x00a", api.ErrLong},
		{"a number of a column of 2^63", "\x01" + string(leb.U(1<<63)) + "\x01a", api.ErrLong},
		{"a number of a column of 2^64 - 1", "\x01" + great + "\x01a", api.ErrLong},
		{"a number of a column of 2^32", "\x01" + string(leb.U(1<<32)) + "\x01a", api.ErrLong},
		{"a number of a column alone", "\x01\x05", api.ErrShort},
		{"a column's bytes' number that ends too soon", "\x01\x05\x81", api.ErrShort},
		{"a column's bytes' number in a longer form", "\x01\x05\x81\x00a", api.ErrForm},
		{"2^20 + 1 bytes", "\x01\x05\x81\x80\x40a", api.ErrLong},
		{"2^20 + 1 bytes that are there", "\x01\x05\x81\x80\x40" + strings.Repeat("a", 1<<20+1), api.ErrLong},
		{"2^20 bytes, of which one is missing", "\x01\x05\x80\x80\x40" + strings.Repeat("a", 1<<20-1), api.ErrShort},
		{"2^20 bytes, and one more", "\x01\x05\x80\x80\x40" + strings.Repeat("a", 1<<20+1), api.ErrForm},
		{"2^63 bytes", "\x01\x05" + string(leb.U(1<<63)) + "a", api.ErrLong},
		{"2^64 - 1 bytes", "\x01\x05" + great + "a", api.ErrLong},
		{"no bytes of a column", "\x01\x05\x00", api.ErrForm},
		{"no bytes of the column 0", "\x01\x00\x00", api.ErrForm},
		{"no bytes of a column, and a byte", "\x01\x05\x00a", api.ErrForm},
		{"no bytes of the first of two columns, the second one not there", "\x02\x05\x00", api.ErrForm},
		{"no bytes of the first of two columns, the second one above 2^20", "\x02\x05\x00\x81\x80\x40", api.ErrForm},
		{"no bytes of the second one, the first one's not there", "\x02\x05\x01\x06\x00", api.ErrForm},
		{"the same number twice", "\x02\x05\x01\x05\x01ab", api.ErrForm},
		{"the number 0 twice", "\x02\x00\x01\x00\x01ab", api.ErrForm},
		{"a number that falls", "\x02\x05\x01\x04\x01ab", api.ErrForm},
		{"a number that falls, and ends there", "\x02\x05\x01\x04", api.ErrShort},
		{"a number that falls, and how many that ends too soon", "\x02\x05\x01\x04\x81", api.ErrShort},
		{"a number that falls, and 2^20 + 1 bytes", "\x02\x05\x01\x04\x81\x80\x40", api.ErrLong},
		{"a number that falls, bytes that are not there", "\x02\x05\x01\x04\x01", api.ErrForm},
		{"a number that falls, the third one above 2^20", "\x03\x05\x01\x04\x01\x81\x80\x40", api.ErrForm},
		{"the third number as great as the first one", "\x03\x05\x01\x06\x01\x05\x01abc", api.ErrForm},
		{"the second number falls, the third one rises", "\x03\x05\x01\x04\x01\x06\x01abc", api.ErrForm},
		{"a second column that isn't there, but the first one's bytes", "\x02\x05\x01a", api.ErrShort},
		{"a second column above 2^20, the first one's bytes not there", "\x02\x05\x01\x81\x80\x40", api.ErrLong},
		{"one byte fewer", "\x01\x05\x03ab", api.ErrShort},
		{"no byte of one", "\x01\x05\x01", api.ErrShort},
		{"one byte more", "\x01\x05\x01ab", api.ErrForm},
		{"one byte fewer in the second one", "\x02\x05\x01\x06\x02ab", api.ErrShort},
		{"no byte of the second one", "\x02\x05\x01\x06\x01a", api.ErrShort},
		{"no byte of either", "\x02\x05\x01\x06\x01", api.ErrShort},
		{"one byte more behind the second one", "\x02\x05\x01\x06\x01abc", api.ErrForm},
	} {
		if l, e := dir.Get([]byte(c.b)); e != c.e || len(l) != 0 {
			t.Errorf("%s: %s, %d; want %d", c.name, brief(l), e, c.e)
		}
	}
}

// TestAllShortBytes holds all rows of up to six of some bytes.
func TestAllShortBytes(t *testing.T) {
	some := "\x00\x01\x02\x03\x41\x80\xff"
	met := map[api.Errno]int{}
	rows := []string{""}
	for range 7 {
		var longer []string
		for _, b := range rows {
			want, e := plainGet(b)
			gets(t, b, want, e)
			if e == api.OK && string(dir.Put(want...)) != b {
				t.Errorf("Get(%x): the same columns, of other bytes", b)
			}
			met[e]++
			for _, x := range []byte(some) {
				longer = append(longer, b+string([]byte{x}))
			}
		}
		if t.Failed() {
			return
		}
		rows = longer
	}
	for _, e := range []api.Errno{api.OK, api.ErrShort, api.ErrForm, api.ErrLong} {
		if met[e] < 20 {
			t.Errorf("the error %d was met %d times", e, met[e])
		}
	}
}

// drawn answers so many columns of rising numbers, some of which have no bytes.
func drawn(rnd *rand.Rand, n int) []dir.Col {
	var l []dir.Col
	id := rnd.IntN(3)
	for range n {
		data := make([]byte, rnd.IntN(6)*rnd.IntN(3))
		if rnd.IntN(20) == 0 {
			data = make([]byte, rnd.IntN(400))
		}
		for i := range data {
			data[i] = byte(rnd.Uint64())
		}
		l = append(l, dir.Col{Id: id, Data: data})
		id += 1 + rnd.IntN(1+1<<rnd.IntN(13))
	}
	return l
}

func TestWhatIsPutIsRead(t *testing.T) {
	rnd := rand.New(rand.NewPCG(16, 1))
	for range 5000 {
		l := drawn(rnd, rnd.IntN(65))
		both(t, l, plainPut(l))
		for _, c := range full(l) {
			if got, _ := dir.Get(dir.Put(l...)); !bytes.Equal(dir.Find(got, c.Id), c.Data) {
				t.Errorf("the column %d isn't found", c.Id)
			}
		}
		if t.Failed() {
			return
		}
	}
}

// wrong answers bytes, of which, now and then, some are others, too many, or too few.
func wrong(rnd *rand.Rand, s string) string {
	b := []byte(s)
	some := []byte{0, 1, 2, 3, 5, 64, 65, 127, 128, 129, 255}
	for range rnd.IntN(3) {
		at := rnd.IntN(min(len(b), 20) + 1)
		switch x := some[rnd.IntN(len(some))]; {
		case rnd.IntN(3) == 0 || at == len(b):
			b = slices.Insert(b, at, x)
		case rnd.IntN(2) == 0:
			b = slices.Delete(b, at, at+1)
		default:
			b[at] = x
		}
	}
	if rnd.IntN(8) == 0 {
		b = b[:rnd.IntN(len(b)+1)]
	}
	return string(b)
}

// TestOneFormAlone hands in bytes of all sorts: what is read is put as just these, and all else is refused as the chapter has it.
func TestOneFormAlone(t *testing.T) {
	rnd := rand.New(rand.NewPCG(16, 2))
	met := map[api.Errno]int{}
	for range 100000 {
		b := wrong(rnd, plainPut(drawn(rnd, rnd.IntN(8))))
		want, e := plainGet(b)
		gets(t, b, want, e)
		if e == api.OK && string(dir.Put(want...)) != b {
			t.Errorf("Get(%x): the same columns, of other bytes", b)
		}
		if t.Failed() {
			return
		}
		met[e]++
	}
	for _, e := range []api.Errno{api.OK, api.ErrShort, api.ErrForm, api.ErrLong} {
		if met[e] < 100 {
			t.Errorf("the error %d was met %d times", e, met[e])
		}
	}
}

// TestEnds hands in that of which nothing is promised, but that the call ends.
func TestEnds(t *testing.T) {
	for _, id := range []int{math.MinInt, -1, 1<<20 + 1, math.MaxInt} {
		b := dir.Put(col(id, "a"), dir.Col{Id: id}, col(id, "b"))
		if l, e := dir.Get(b); e == api.OK || len(l) != 0 {
			t.Errorf("Get(%x) = %v, %d", b, l, e)
		}
	}
	dir.Put(slices.Repeat([]dir.Col{col(3, "abc")}, 1000)...)
	dir.Put(dir.Col{Id: 1, Data: make([]byte, 3<<20)})
}

// fill fills bytes' spare room, too.
func fill(b []byte, x byte) {
	for i := range b[:cap(b)] {
		b[:cap(b)][i] = x
	}
}

// TestMemory holds that what is handed in isn't changed or kept, spare room included, and that answers share no memory.
func TestMemory(t *testing.T) {
	rnd := rand.New(rand.NewPCG(16, 3))
	for i := range 60 {
		want := drawn(rnd, i)
		b := plainPut(want)
		var l []dir.Col
		for _, c := range want {
			l = append(l, dir.Col{Id: c.Id, Data: append(slices.Clone(c.Data), "!!"...)[:len(c.Data)]})
		}
		l = append(l, col(1<<30, "spare"))
		x := dir.Put(l[:i]...)
		fill(dir.Put(l[:i]...), 99)
		for j, c := range l[:i] {
			if string(c.Data[:len(c.Data)+2]) != string(want[j].Data)+"!!" || c.Id != want[j].Id {
				t.Errorf("Put(%s) changed what was handed in", brief(want))
			}
			fill(c.Data, 98)
		}
		if string(x) != b || string(l[i].Data) != "spare" {
			t.Errorf("Put(%s): the answer became %s", brief(want), brief(x))
		}
		room := append([]byte(b), "!!"...)
		got, _ := dir.Get(room[:len(b)])
		more, _ := dir.Get(room[:len(b)])
		if string(room) != b+"!!" {
			t.Errorf("Get(%s) changed what was handed in", brief(b))
		}
		fill(room, 97)
		for _, c := range more {
			fill(c.Data, 96)
		}
		if want = full(want); !same(got, want) {
			t.Errorf("Get(%s): the answer became %s", brief(b), brief(got))
		}
		for j, c := range got {
			fill(c.Data, 95)
			if !same(got[j+1:], want[j+1:]) {
				t.Errorf("Get(%s): a column shares memory with a later one", brief(b))
			}
		}
		for j := len(got) - 1; j > 0; j-- {
			fill(got[j-1].Data, 94)
			fill(got[j].Data, 93)
			if bytes.Contains(got[j-1].Data, []byte{93}) {
				t.Errorf("Get(%s): a column shares memory with an earlier one", brief(b))
			}
		}
	}
}

// TestMemoryOfFind holds that Find answers bytes of its own.
func TestMemoryOfFind(t *testing.T) {
	room := []byte("data!!")
	l := []dir.Col{{Id: 1, Data: room[:4]}, {Id: 2, Data: room[:0]}}
	for id := range 3 {
		fill(dir.Find(l, id), 99)
	}
	b := dir.Find(l, 1)
	if string(room) != "data!!" || string(b) != "data" {
		t.Errorf("what was handed in became %q, an answer is %q", room, b)
	}
	fill(room, 98)
	if string(b) != "data" {
		t.Errorf("an answer became %q", b)
	}
}
