package actors_test

import (
	"bytes"
	"fmt"
	"maps"
	"math"
	"math/rand/v2"
	"slices"
	"strings"
	"testing"
	"unsafe"

	"inkwell/actors"
	"inkwell/api"
	"inkwell/leb"
)

// brief answers what is told of anything, but its middle, if it is long.
func brief(x any) string {
	s := fmt.Sprintf("%+q", x)
	if len(s) <= 300 {
		return s
	}
	return s[:150] + " .. " + s[len(s)-150:]
}

func id(ctr int64, actor string) api.OpId {
	return api.OpId{Ctr: ctr, Actor: actor}
}

// by answers a name of each of some actors.
func by(l ...string) []api.OpId {
	var ids []api.OpId
	for i, a := range l {
		ids = append(ids, id(int64(i+1), a))
	}
	return ids
}

const (
	sixteen   = "0123456789abcdef"
	seventeen = sixteen + "g"
)

// plainLess tells whether a text is lesser than another one, byte by byte.
func plainLess(a, b string) bool {
	for i := range min(len(a), len(b)) {
		if a[i] != b[i] {
			return a[i] < b[i]
		}
	}
	return len(a) < len(b)
}

// plainTable answers by the chapter's words who is spoken of: each is put where it belongs.
func plainTable(author string, l []api.Op) []string {
	table := []string{author}
	add := func(x api.OpId) {
		if x.Ctr == 0 && x.Actor == "" || slices.Contains(table, x.Actor) {
			return
		}
		at := 1
		for at < len(table) && plainLess(table[at], x.Actor) {
			at++
		}
		table = slices.Insert(table, at, x.Actor)
	}
	for _, o := range l {
		add(o.Obj)
		add(o.Elem)
		for _, x := range o.Preds {
			add(x)
		}
	}
	return table
}

// plainPut answers by the chapter's words a table's bytes.
func plainPut(table []string) string {
	if len(table) == 0 {
		return "\x00"
	}
	var b strings.Builder
	b.Write(leb.U(uint64(len(table) - 1)))
	for _, a := range table[1:] {
		b.Write(leb.U(uint64(len(a))))
		b.WriteString(a)
	}
	return b.String()
}

// plainGet answers by the chapter's words which table bytes begin with.
func plainGet(author, b string) ([]string, int, api.Errno) {
	count, at, e := leb.GetU([]byte(b))
	if e != api.OK {
		return nil, 0, e
	}
	table := []string{author}
	for uint64(len(table)-1) < count {
		n, k, e := leb.GetU([]byte(b[at:]))
		if e != api.OK {
			return nil, 0, e
		}
		at += k
		if n == 0 || n > 16 {
			return nil, 0, api.ErrLong
		}
		if n > uint64(len(b)-at) {
			return nil, 0, api.ErrShort
		}
		a := b[at : at+int(n)]
		at += int(n)
		if a == author || len(table) > 1 && !plainLess(table[len(table)-1], a) {
			return nil, 0, api.ErrForm
		}
		table = append(table, a)
	}
	return table, at, api.OK
}

func TestTable(t *testing.T) {
	for i, c := range []struct {
		author string
		l      []api.Op
		want   []string
	}{
		{"b", []api.Op{{Elem: id(1, "a")}}, []string{"b", "a"}}, // the chapter's example
		{"a", nil, []string{"a"}},
		{"a", []api.Op{}, []string{"a"}},
		{"a", []api.Op{{}, {Keyed: true, Key: "b"}, {}}, []string{"a"}},
		{"a", []api.Op{{Obj: id(1, "b")}}, []string{"a", "b"}},
		{"a", []api.Op{{Elem: id(1, "b")}}, []string{"a", "b"}},
		{"a", []api.Op{{Preds: by("b")}}, []string{"a", "b"}},
		{"a", []api.Op{{Preds: by("d", "c", "b")}}, []string{"a", "b", "c", "d"}},
		{"a", []api.Op{{Obj: id(1, "d"), Elem: id(1, "c"), Preds: by("b", "e")}}, []string{"a", "b", "c", "d", "e"}},
		{"a", []api.Op{{Preds: by("z")}, {Elem: id(2, "y")}, {}, {Obj: id(3, "x")}}, []string{"a", "x", "y", "z"}},
		// Each stands there once, the author ahead, wherever it belongs.
		{"a", []api.Op{{Obj: id(1, "a"), Elem: id(2, "a"), Preds: by("a", "a")}}, []string{"a"}},
		{"m", []api.Op{{Preds: by("m", "z", "m", "a", "z", "m")}, {Obj: id(9, "z"), Elem: id(9, "a")}}, []string{"m", "a", "z"}},
		{"z", []api.Op{{Preds: by("c", "z", "b", "a")}}, []string{"z", "a", "b", "c"}},
		// Byte by byte, what is begun ahead of what goes on, and whatever characters the bytes are.
		{"m", []api.Op{{Preds: by("b", "aa", "a", "B", "a\x00", "\xff", "\x00", "ab", "\x7f", "\x80", "\xc3\xa9", "Z")}},
			[]string{"m", "\x00", "B", "Z", "a", "a\x00", "aa", "ab", "b", "\x7f", "\x80", "\xc3\xa9", "\xff"}},
		{"a", []api.Op{{Preds: by("aa", "a ", "a\x00", "A")}}, []string{"a", "A", "a\x00", "a ", "aa"}},
		{"9", []api.Op{{Preds: by("10", "9", "2", "1")}}, []string{"9", "1", "10", "2"}},
		{sixteen, []api.Op{{Preds: by(sixteen, sixteen[:15], sixteen[:15]+"g")}}, []string{sixteen, sixteen[:15], sixteen[:15] + "g"}},
		// The author may be any text, and the ops any ops: all names but the zero ones count.
		{"", nil, []string{""}},
		{"", []api.Op{{Preds: by("b", "a")}}, []string{"", "a", "b"}},
		{"", []api.Op{{Preds: by("", "a", "")}}, []string{"", "a"}},
		{"a", []api.Op{{Preds: by("b", "")}}, []string{"a", "", "b"}},
		{"a", []api.Op{{Obj: id(0, "b"), Elem: id(-1, "c"), Preds: []api.OpId{id(math.MaxInt64, "d"), {}, id(math.MinInt64, "e")}}}, []string{"a", "b", "c", "d", "e"}},
		{"a", []api.Op{{Keyed: true, Elem: id(1, "b"), Insert: true, Action: -1}}, []string{"a", "b"}},
		{"a", []api.Op{{Preds: by(seventeen, sixteen)}}, []string{"a", sixteen, seventeen}},
		{seventeen, []api.Op{{Preds: by(seventeen, sixteen)}}, []string{seventeen, sixteen}},
		{strings.Repeat("a", 1<<20), []api.Op{{Preds: by(strings.Repeat("a", 1<<20), strings.Repeat("b", 1<<20))}}, []string{strings.Repeat("a", 1<<20), strings.Repeat("b", 1<<20)}},
		// No other text of an op counts.
		{"a", []api.Op{{Keyed: true, Key: "k", Val: api.Value{Kind: api.Text, S: "v"}}}, []string{"a"}},
	} {
		if got := actors.Table(c.author, c.l...); !slices.Equal(got, c.want) {
			t.Errorf("%d: Table(%s, %s) = %s; want %s", i, brief(c.author), brief(c.l), brief(got), brief(c.want))
		}
		if plain := plainTable(c.author, c.l); !slices.Equal(plain, c.want) {
			t.Errorf("%d: the chapter's words have %s", i, brief(plain))
		}
	}
}

// some answers texts of which names and tables are drawn.
func some() []string {
	return []string{"a", "b", "c", "aa", "ab", "ba", "a\x00", "\x00", "B", "\x7f", "\x80", "\xff", "\xff\xff", "\xc3\xa9", sixteen, sixteen[:15], strings.Repeat("\xff", 16)}
}

// drawnOps answers ops, and now and then such ones as may not be.
func drawnOps(rnd *rand.Rand) []api.Op {
	texts := some()
	if rnd.IntN(4) == 0 {
		texts = append(texts, "", seventeen)
	}
	name := func() api.OpId { return id(rnd.Int64N(9), texts[rnd.IntN(len(texts))]) }
	var l []api.Op
	for range rnd.IntN(6) {
		var o api.Op
		if rnd.IntN(3) == 0 {
			o.Obj = name()
		}
		if rnd.IntN(3) == 0 {
			o.Elem = name()
		}
		for range rnd.IntN(3) * rnd.IntN(4) {
			o.Preds = append(o.Preds, name())
		}
		l = append(l, o)
	}
	return l
}

func TestTableOfDrawn(t *testing.T) {
	rnd := rand.New(rand.NewPCG(18, 1))
	for range 20000 {
		l := drawnOps(rnd)
		for _, author := range []string{"a", "ab", "", "\xff", "zz"} {
			if got, want := actors.Table(author, l...), plainTable(author, l); !slices.Equal(got, want) {
				t.Fatalf("Table(%q, %s) = %q; want %q", author, brief(l), got, want)
			}
		}
	}
}

// TestOneOrder holds that a table doesn't hang on the order in which actors are met, nor on how often it is asked for.
func TestOneOrder(t *testing.T) {
	rnd := rand.New(rand.NewPCG(18, 2))
	var ids []api.OpId
	for i := range 500 {
		ids = append(ids, id(int64(i), fmt.Sprintf("%x", i*i)), id(7, "x"))
	}
	want := plainTable("x", []api.Op{{Preds: ids}})
	if len(want) != 501 {
		t.Fatalf("%d actors", len(want))
	}
	for range 50 {
		rnd.Shuffle(len(ids), func(i, j int) { ids[i], ids[j] = ids[j], ids[i] })
		if got := actors.Table("x", api.Op{Preds: ids[:300]}, api.Op{Preds: ids[300:]}); !slices.Equal(got, want) {
			t.Fatalf("Table = %s; want %s", brief(got), brief(want))
		}
	}
}

func TestIndex(t *testing.T) {
	table := []string{"m", "a", "ab", "b", "", "a", "m", sixteen, "\xff"}
	for _, c := range []struct {
		a    string
		want int
	}{{"m", 0}, {"a", 1}, {"ab", 2}, {"b", 3}, {"", 4}, {sixteen, 7}, {"\xff", 8}, {"c", -1}, {"A", -1}, {"a\x00", -1}, {"mm", -1}, {seventeen, -1}, {sixteen[:15], -1}, {"\xfe", -1}, {"\x00", -1}} {
		if i := actors.Index(table, c.a); i != c.want {
			t.Errorf("Index of %q = %d; want %d", c.a, i, c.want)
		}
		for _, none := range [][]string{nil, {}} {
			if i := actors.Index(none, c.a); i != -1 {
				t.Errorf("Index of %q in no table = %d", c.a, i)
			}
		}
	}
	for i, a := range table[:4] {
		if got := actors.Index(table[i:], a); got != 0 {
			t.Errorf("Index of %q, the first one, = %d", a, got)
		}
		if got := actors.Index(table[:i], a); got != -1 {
			t.Errorf("Index of %q, which is behind the last one, = %d", a, got)
		}
	}
}

// many answers the table of an author and so many others, all of two bytes.
func many(author string, n int) []string {
	table := []string{author}
	for i := range n {
		table = append(table, string([]byte{byte(i >> 8), byte(i)}))
	}
	return table
}

func TestPut(t *testing.T) {
	for _, c := range []struct {
		table []string
		b     string
	}{
		{[]string{"b", "a"}, "\x01\x01a"}, // the chapter's example
		{nil, "\x00"},
		{[]string{}, "\x00"},
		{[]string{"a"}, "\x00"},
		{[]string{""}, "\x00"},
		{[]string{strings.Repeat("a", 1000)}, "\x00"},
		{[]string{"m", "a", "z", "zz"}, "\x03\x01a\x01z\x02zz"},
		{[]string{"a", "\x00", "\xff\x01"}, "\x02\x01\x00\x02\xff\x01"},
		{[]string{"a", sixteen}, "\x01\x10" + sixteen},
		// Texts that are no actors may stand in a table, too.
		{[]string{"a", "", "b"}, "\x02\x00\x01b"},
		{[]string{"a", seventeen}, "\x01\x11" + seventeen},
		{[]string{"a", strings.Repeat("x", 127), strings.Repeat("y", 128)}, "\x02\x7f" + strings.Repeat("x", 127) + "\x80\x01" + strings.Repeat("y", 128)},
		{many("a", 127), plainPut(many("a", 127))},
		{many("a", 128), "\x80\x01\x02\x00\x00" + plainPut(many("a", 128))[5:]},
		{many("a", 65536), plainPut(many("a", 65536))},
	} {
		if b := actors.Put(c.table); string(b) != c.b {
			t.Errorf("Put(%s) = %s; want %s", brief(c.table), brief(b), brief(c.b))
		}
		if plain := plainPut(c.table); plain != c.b {
			t.Errorf("of %s the chapter's words have %s", brief(c.table), brief(plain))
		}
	}
}

// gets tells a test that bytes aren't read as they should be; bytes behind them, in spare room, count for nothing.
func gets(t *testing.T, author, b string, want []string, k int, e api.Errno) {
	t.Helper()
	room := append([]byte(b), "\x01z\x01zz\x02"...)
	table, n, x := actors.Get(author, room[:len(b)])
	if !slices.Equal(table, want) || n != k || x != e {
		t.Errorf("Get(%s, %s) = %s, %d, %d; want %s, %d, %d", brief(author), brief(b), brief(table), n, x, brief(want), k, e)
	}
}

// reads tells a test that a table isn't read from its bytes as it was, whatever stands behind them, or that some of them do.
func reads(t *testing.T, table []string) {
	t.Helper()
	b := string(actors.Put(table))
	if b != plainPut(table) {
		t.Errorf("Put(%s) = %s; want %s", brief(table), brief(b), brief(plainPut(table)))
	}
	for _, behind := range []string{"", "\x00", "\x01a", "\x80", "\xff\xff\xff\xff\xff\xff\xff\xff\xff\xff\xff"} {
		gets(t, table[0], b+behind, table, len(b), api.OK)
	}
	for i := range min(len(b), 500) {
		gets(t, table[0], b[:i], nil, 0, api.ErrShort)
	}
	gets(t, table[0], b[:len(b)-1], nil, 0, api.ErrShort)
}

func TestWhatIsPutIsRead(t *testing.T) {
	for _, table := range [][]string{
		{"b", "a"},
		{"a"},
		{""},
		{"", "a"},
		{seventeen, sixteen},
		{strings.Repeat("a", 1<<20), "a"},
		{"m", "a", "z", "zz"},
		{"z", "a", "aa", "aaa"},
		{"a", "\x00", "\x00\x00", "\x7f", "\x80", "\xff", strings.Repeat("\xff", 16)},
		{"a", strings.Repeat("\x00", 16), "\x01"},
		{sixteen, sixteen[:1], sixteen[:2], sixteen[:15]},
		many("author", 127),
		many("author", 128),
		many("author", 16383),
		many("author", 16384),
		many("author", 65536),
	} {
		reads(t, table)
	}
	rnd := rand.New(rand.NewPCG(18, 3))
	for range 5000 {
		l := drawnOps(rnd)
		for _, author := range []string{"a", "ab", "zz"} {
			table := actors.Table(author, l...)
			if !slices.Contains(table, "") && !slices.Contains(table, seventeen) {
				reads(t, table)
			}
		}
		if t.Failed() {
			return
		}
	}
}

// TestErrors holds which error is the first, where several things are wrong; the author is m.
func TestErrors(t *testing.T) {
	long := strings.Repeat("\x80", 10)
	great := string(leb.U(math.MaxUint64))
	for _, c := range []struct {
		name, b string
		e       api.Errno
	}{
		{"no bytes", "", api.ErrShort},
		{"how many, that ends too soon", "\x80", api.ErrShort},
		{"how many, in a longer form", "\x80\x00", api.ErrForm},
		{"how many, in a longer form, and an actor", "\x81\x00\x01a", api.ErrForm},
		{"how many, of more than ten bytes", long, api.ErrForm},
		{"how many, above 2^64 - 1", great[:9] + "\x02", api.ErrForm},
		{"one, who isn't there", "\x01", api.ErrShort},
		{"2^63, who aren't there", string(leb.U(1 << 63)), api.ErrShort},
		{"2^64 - 1, who aren't there", great, api.ErrShort},
		{"2^64 - 1, of whom two are there", great + "\x01a\x01b", api.ErrShort},
		{"2^64 - 1, of whom the second one is the first one", great + "\x01a\x01a", api.ErrForm},
		{"2^64 - 1, of whom the first one has no bytes", great + "\x00", api.ErrLong},
		{"a length that ends too soon", "\x01\x81", api.ErrShort},
		{"a length in a longer form", "\x01\x81\x00a", api.ErrForm},
		{"a length of 0 in a longer form", "\x01\x80\x00", api.ErrForm},
		{"a length of 17 in a longer form", "\x01\x91\x00" + seventeen, api.ErrForm},
		{"a length of more than ten bytes", "\x01" + long + "a", api.ErrForm},
		{"a length of 0", "\x01\x00", api.ErrLong},
		{"a length of 0, and a byte", "\x01\x00a", api.ErrLong},
		{"a length of 17", "\x01\x11", api.ErrLong},
		{"a length of 17 that is there", "\x01\x11" + seventeen, api.ErrLong},
		{"a length of 127", "\x01\x7f", api.ErrLong},
		{"a length of 128", "\x01\x80\x01" + strings.Repeat("a", 128), api.ErrLong},
		{"a length of 256 + 1", "\x01\x81\x02a", api.ErrLong},
		{"a length of 2^32 + 1", "\x01" + string(leb.U(1<<32+1)) + "a", api.ErrLong},
		{"a length of 2^63", "\x01" + string(leb.U(1<<63)) + "a", api.ErrLong},
		{"a length of 2^64 - 1", "\x01" + great + "a", api.ErrLong},
		{"no byte of one", "\x01\x01", api.ErrShort},
		{"one byte of two", "\x01\x02a", api.ErrShort},
		{"15 bytes of 16", "\x01\x10" + sixteen[:15], api.ErrShort},
		{"the author", "\x01\x01m", api.ErrForm},
		{"the author, but its last byte is missing", "\x01\x02m", api.ErrShort},
		{"the author, and another one who isn't there", "\x02\x01m", api.ErrForm},
		{"the author, and another one without bytes", "\x02\x01m\x00", api.ErrForm},
		{"the author as the second one, who is greater", "\x02\x01a\x01m", api.ErrForm},
		{"the author as the second one, who is lesser", "\x02\x01z\x01m", api.ErrForm},
		{"the author as the third one, and one more who isn't there", "\x04\x01a\x01b\x01m", api.ErrForm},
		{"the same one twice", "\x02\x01a\x01a", api.ErrForm},
		{"the same one twice, another one between", "\x03\x01a\x01b\x01a", api.ErrForm},
		{"one who is lesser", "\x02\x01b\x01a", api.ErrForm},
		{"one who is lesser, and one more who isn't there", "\x03\x01b\x01a", api.ErrForm},
		{"one who is lesser, and one more of a length of 17", "\x03\x01b\x01a\x11", api.ErrForm},
		{"one who is lesser, but no byte is there", "\x02\x01b\x01", api.ErrShort},
		{"one who is lesser, but the last byte is missing", "\x02\x01b\x02a", api.ErrShort},
		{"one who begins the one ahead", "\x02\x02aa\x01a", api.ErrForm},
		{"one who is longer, and lesser", "\x02\x01b\x02aa", api.ErrForm},
		{"one who is lesser, as bytes have no sign", "\x02\x01\x80\x01\x7f", api.ErrForm},
		{"one who is lesser than the last one alone", "\x03\x01a\x01c\x01b", api.ErrForm},
		{"a second one of a length of 0", "\x02\x01a\x00", api.ErrLong},
		{"a second one of a length of 17", "\x02\x01a\x11", api.ErrLong},
		{"a second one whose length ends too soon", "\x02\x01a\x80", api.ErrShort},
		{"a second one whose length is in a longer form", "\x02\x01a\x81\x00b", api.ErrForm},
		{"a second one who isn't there", "\x02\x01a", api.ErrShort},
	} {
		if table, k, e := actors.Get("m", []byte(c.b)); e != c.e || len(table) != 0 || k != 0 {
			t.Errorf("%s: %q, %d, %d; want %d", c.name, table, k, e, c.e)
		}
		if _, _, e := plainGet("m", c.b); e != c.e {
			t.Errorf("%s: the chapter's words have %d", c.name, e)
		}
	}
}

// TestNeighbours holds what is nearly refused.
func TestNeighbours(t *testing.T) {
	for _, c := range []struct {
		author, b string
		want      []string
		k         int
	}{
		{"m", "\x00\x01m", []string{"m"}, 1},
		{"m", "\x00\x80", []string{"m"}, 1},
		{"m", "\x01\x01a\x01a", []string{"m", "a"}, 3},
		{"m", "\x01\x01a\x01m", []string{"m", "a"}, 3},
		{"m", "\x01\x02mm", []string{"m", "mm"}, 4},
		{"mm", "\x01\x01m", []string{"mm", "m"}, 3},
		{"m", "\x01\x01M", []string{"m", "M"}, 3},
		{"m", "\x02\x01a\x02aa", []string{"m", "a", "aa"}, 6},
		{"m", "\x02\x01a\x02a\x00", []string{"m", "a", "a\x00"}, 6},
		{"m", "\x02\x01\x7f\x01\x80", []string{"m", "\x7f", "\x80"}, 5},
		{"m", "\x02\x02ab\x01b", []string{"m", "ab", "b"}, 6},
		{"m", "\x01\x01\x00", []string{"m", "\x00"}, 3}, // the least actor
		{"m", "\x02\x01a\x01z", []string{"m", "a", "z"}, 5},
		{"a", "\x01\x01\xff", []string{"a", "\xff"}, 3}, // an actor needn't be UTF-8
		{"z", "\x01\x01a", []string{"z", "a"}, 3},       // others needn't be greater than the author
		{"a", "\x01\x10" + sixteen, []string{"a", sixteen}, 18},
		{"", "\x01\x01a", []string{"", "a"}, 3},
		{seventeen, "\x01\x10" + sixteen, []string{seventeen, sixteen}, 18},
	} {
		gets(t, c.author, c.b, c.want, c.k, api.OK)
	}
}

// TestAllShortBytes holds all rows of up to six of some bytes: just tables' own bytes are read.
func TestAllShortBytes(t *testing.T) {
	letters := []byte("\x00\x01\x02\x03\x11\x80a")
	met := map[api.Errno]int{}
	rows := []string{""}
	for range 7 {
		var longer []string
		for _, b := range rows {
			for _, author := range []string{"a", "\x01", ""} {
				want, k, e := plainGet(author, b)
				gets(t, author, b, want, k, e)
				if e == api.OK && string(actors.Put(want)) != b[:k] {
					t.Errorf("Get(%q, %x): the same table, of other bytes", author, b)
				}
				met[e]++
			}
			for _, x := range letters {
				longer = append(longer, b+string([]byte{x}))
			}
		}
		if t.Failed() {
			return
		}
		rows = longer
	}
	for _, e := range []api.Errno{api.OK, api.ErrShort, api.ErrForm, api.ErrLong} {
		if met[e] < 100 {
			t.Errorf("the error %d was met %d times", e, met[e])
		}
	}
}

// wrong answers bytes, of which, now and then, some are others, too many, or too few.
func wrong(rnd *rand.Rand, s string) string {
	b := []byte(s)
	letters := []byte{0, 1, 2, 3, 16, 17, 127, 128, 129, 255, 'a', 'b'}
	for range rnd.IntN(3) {
		at := rnd.IntN(len(b) + 1)
		switch x := letters[rnd.IntN(len(letters))]; {
		case rnd.IntN(3) == 0 || at == len(b):
			b = slices.Insert(b, at, x)
		case rnd.IntN(2) == 0:
			b = slices.Delete(b, at, at+1)
		default:
			b[at] = x
		}
	}
	if rnd.IntN(8) == 0 {
		b = b[:rnd.IntN(len(b)+1)]
	}
	return string(b)
}

// TestOneFormAlone hands in bytes of all sorts: what is read is put as just these, and all else is refused as the chapter has it.
func TestOneFormAlone(t *testing.T) {
	rnd := rand.New(rand.NewPCG(18, 4))
	met := map[api.Errno]int{}
	for range 100000 {
		author := some()[rnd.IntN(5)]
		b := wrong(rnd, plainPut(plainTable(author, drawnOps(rnd))))
		want, k, e := plainGet(author, b)
		gets(t, author, b, want, k, e)
		if e == api.OK && string(actors.Put(want)) != b[:k] {
			t.Errorf("Get(%q, %x): the same table, of other bytes", author, b)
		}
		if t.Failed() {
			return
		}
		met[e]++
	}
	for _, e := range []api.Errno{api.OK, api.ErrShort, api.ErrForm, api.ErrLong} {
		if met[e] < 100 {
			t.Errorf("the error %d was met %d times", e, met[e])
		}
	}
}

// spoil changes all texts of a list, spare room included.
func spoil(l []string) {
	for i := range l[:cap(l)] {
		l[:cap(l)][i] = "spoilt"
	}
}

// fill fills bytes' spare room, too.
func fill(b []byte, x byte) {
	for i := range b[:cap(b)] {
		b[:cap(b)][i] = x
	}
}

// TestMemoryOfTable holds that ops aren't changed or kept, spare room included, and that answers share no memory.
func TestMemoryOfTable(t *testing.T) {
	for _, l := range [][]string{{}, {"m"}, {"z", "a", "m", "a"}, {"c", "b", "a"}} {
		ids := append(by(l...), by("room", "more")...)
		given := []api.Op{{Obj: id(1, "q"), Preds: ids[:len(l)]}, {Key: "room", Preds: ids}}
		want := plainTable("m", given[:1])
		table := actors.Table("m", given[:1]...)
		spoil(actors.Table("m", given[:1]...))
		if !slices.Equal(ids, append(by(l...), by("room", "more")...)) || given[0].Obj != id(1, "q") || given[1].Key != "room" {
			t.Errorf("Table(m, %q) changed what was handed in", l)
		}
		for i := range ids {
			ids[i] = id(99, "spoilt")
		}
		if !slices.Equal(table, want) {
			t.Errorf("Table(m, %q): the answer became %q", l, table)
		}
	}
}

// TestMemoryOfBytes holds that tables and bytes aren't changed or kept, spare room included, and that answers share no memory.
func TestMemoryOfBytes(t *testing.T) {
	for _, want := range [][]string{nil, {"m"}, {"m", "a"}, {"m", "0", "a", "b"}, many("m", 300)} {
		given := append(slices.Clone(want), "room")[:len(want)]
		b := actors.Put(given)
		fill(actors.Put(given), 99)
		actors.Index(given, "a")
		if !slices.Equal(given[:len(want)+1], append(slices.Clone(want), "room")) {
			t.Errorf("Put(%s) changed what was handed in", brief(want))
		}
		spoil(given)
		if string(b) != plainPut(want) {
			t.Errorf("Put(%s): the answer became %s", brief(want), brief(b))
		}
		if want == nil {
			want = []string{"m"}
		}
		room := append([]byte(plainPut(want)), "!!"...)
		n := len(room) - 2
		table, _, _ := actors.Get("m", room[:n])
		other, _, _ := actors.Get("m", room[:n])
		spoil(other)
		if !bytes.Equal(room, []byte(plainPut(want)+"!!")) {
			t.Errorf("Get(m, %s) changed what was handed in", brief(plainPut(want)))
		}
		fill(room, 97)
		if !slices.Equal(table, want) {
			t.Errorf("Get(m, %s): the answer became %s", brief(plainPut(want)), brief(table))
		}
	}
}

// TestTextsAreNew holds that no answer keeps a text that was handed in, of which it may be a piece.
func TestTextsAreNew(t *testing.T) {
	long := strings.Repeat("abcdefgh", 1000)
	answers := actors.Table(long[2:9], api.Op{Obj: id(1, long[:5]), Elem: id(2, long[1:9]), Preds: by(long[3:4], long[8:24])})
	table, _, _ := actors.Get(long[4:5], []byte("\x01\x01a"))
	from := uintptr(unsafe.Pointer(unsafe.StringData(long)))
	for _, s := range append(answers, table...) {
		at := uintptr(unsafe.Pointer(unsafe.StringData(s)))
		if at >= from && at < from+uintptr(len(long)) {
			t.Errorf("%q is a piece of what was handed in", s)
		}
	}
}

// TestEndsAtMany holds that tables of very many are told, and that each of them stands there once.
func TestEndsAtMany(t *testing.T) {
	met := map[string]bool{}
	var l []api.Op
	for i := range 200000 {
		a := fmt.Sprintf("%d", i%150000)
		met[a] = true
		l = append(l, api.Op{Obj: id(int64(i), a)})
	}
	delete(met, "77")
	want := append([]string{"77"}, slices.Sorted(maps.Keys(met))...)
	table := actors.Table("77", l...)
	if !slices.Equal(table, want) {
		t.Errorf("Table = %s; want %s", brief(table), brief(want))
	}
	b := actors.Put(table)
	gets(t, "77", string(b), want, len(b), api.OK)
	if i := actors.Index(table, want[len(want)-1]); i != len(want)-1 {
		t.Errorf("Index of the last one = %d", i)
	}
}
