package head_test

import (
	"bytes"
	"fmt"
	"math"
	"math/rand/v2"
	"slices"
	"strings"
	"testing"
	"unsafe"

	"inkwell/actors"
	"inkwell/api"
	"inkwell/head"
	"inkwell/leb"
	"inkwell/op"
)

const (
	sixteen   = "0123456789abcdef"
	seventeen = sixteen + "g"
)

// brief answers what is told of anything, but its middle, if it is long.
func brief(x any) string {
	s := fmt.Sprintf("%+q", x)
	if len(s) <= 400 {
		return s
	}
	return s[:200] + " .. " + s[len(s)-200:]
}

// hash answers a hash that begins with some bytes; all others are 0.
func hash(s string) api.Hash {
	var h api.Hash
	copy(h[:], s)
	return h
}

// hashes answers so many hashes, rising by their last bytes.
func hashes(n int) []api.Hash {
	l := make([]api.Hash, n)
	for i := range l {
		l[i][31] = byte(i)
	}
	return l
}

// of answers the text of some hashes.
func of(l ...api.Hash) string {
	var b strings.Builder
	for _, h := range l {
		b.Write(h[:])
	}
	return b.String()
}

// speaks answers an op that speaks of some actors.
func speaks(l ...string) []api.Op {
	var o api.Op
	for i, a := range l {
		o.Preds = append(o.Preds, api.OpId{Ctr: int64(i + 1), Actor: a})
	}
	return []api.Op{o}
}

// least answers a change that may be, of which nothing is told that needn't be.
func least() api.Change {
	return api.Change{Actor: "a", Seq: 1, Start: 1}
}

// with answers the least change, another one in what f changes.
func with(f func(c *api.Change)) api.Change {
	c := least()
	f(&c)
	return c
}

// same tells whether changes are alike, their ops aside.
func same(a, b api.Change) bool {
	return a.Actor == b.Actor && a.Seq == b.Seq && a.Start == b.Start && a.Time == b.Time &&
		a.Message == b.Message && slices.Equal(a.Deps, b.Deps)
}

// plainLess tells whether a hash is lesser than another one, byte by byte.
func plainLess(a, b api.Hash) bool {
	for i := range a {
		if a[i] != b[i] {
			return a[i] < b[i]
		}
	}
	return false
}

// plainRight tells by the chapter's words whether what stands ahead may be.
func plainRight(c api.Change) bool {
	if len(c.Actor) < 1 || len(c.Actor) > 16 || c.Seq < 1 || c.Seq > 1<<53-1 || c.Start < 1 || c.Start > 1<<53-1 {
		return false
	}
	if len(c.Message) > 1000 || strings.ToValidUTF8(c.Message, "") != c.Message || len(c.Deps) > 16 {
		return false
	}
	for i := range c.Deps {
		if i > 0 && !plainLess(c.Deps[i-1], c.Deps[i]) {
			return false
		}
	}
	return true
}

// plainPut answers by the chapter's words the bytes.
func plainPut(c api.Change) string {
	var b strings.Builder
	number := func(n uint64) { b.Write(leb.U(n)) }
	number(uint64(len(c.Deps)))
	for _, h := range c.Deps {
		b.Write(h[:])
	}
	number(uint64(len(c.Actor)))
	b.WriteString(c.Actor)
	number(uint64(c.Seq))
	number(uint64(c.Start))
	b.Write(leb.S(c.Time))
	number(uint64(len(c.Message)))
	b.WriteString(c.Message)
	others := actors.Table(c.Actor, c.Ops...)[1:]
	number(uint64(len(others)))
	for _, a := range others {
		number(uint64(len(a)))
		b.WriteString(a)
	}
	return b.String()
}

// plainGet answers by the chapter's words what bytes begin with: an error panics where it is met.
func plainGet(b string) (c api.Change, table []string, at int, e api.Errno) {
	defer func() {
		if x := recover(); x != nil {
			c, table, at, e = api.Change{}, nil, 0, x.(api.Errno)
		}
	}()
	check := func(wrong bool, e api.Errno) {
		if wrong {
			panic(e)
		}
	}
	number := func() uint64 {
		n, k, e := leb.GetU([]byte(b[at:]))
		check(e != api.OK, e)
		at += k
		return n
	}
	take := func(n uint64) string {
		check(n > uint64(len(b)-at), api.ErrShort)
		at += int(n)
		return b[at-int(n) : at]
	}
	n := number()
	check(n > 16, api.ErrLong)
	for i := range int(n) {
		c.Deps = append(c.Deps, hash(take(32)))
		check(i > 0 && !plainLess(c.Deps[i-1], c.Deps[i]), api.ErrForm)
	}
	n = number()
	check(n == 0, api.ErrForm)
	check(n > 16, api.ErrLong)
	c.Actor = take(n)
	for _, x := range []*int64{&c.Seq, &c.Start} {
		n = number()
		check(n == 0, api.ErrForm)
		check(n > 1<<53-1, api.ErrLong)
		*x = int64(n)
	}
	var k int
	c.Time, k, e = leb.GetS([]byte(b[at:]))
	check(e != api.OK, e)
	at += k
	n = number()
	check(n > 1000, api.ErrLong)
	c.Message = take(n)
	check(strings.ToValidUTF8(c.Message, "") != c.Message, api.ErrForm)
	table, k, e = actors.Get(c.Actor, []byte(b[at:]))
	check(e != api.OK, e)
	return c, table, at + k, api.OK
}

// gets tells a test that bytes aren't read as they should be; bytes behind them, in spare room, count for nothing.
func gets(t *testing.T, b string, want api.Change, table []string, k int, e api.Errno) {
	t.Helper()
	room := append([]byte(b), "\x01\x01\x00\x01z\x00\x00\x00\x00\x00"...)
	c, got, n, x := head.Get(room[:len(b)])
	if !same(c, want) || len(c.Ops) != 0 || !slices.Equal(got, table) || n != k || x != e {
		t.Errorf("Get(%s) = %s, %s, %d, %d; want %s, %s, %d, %d", brief(b), brief(c), brief(got), n, x, brief(want), brief(table), k, e)
	}
}

// agrees tells a test that bytes aren't read as the chapter's words have it, or that they aren't those of what is read; it answers the error.
func agrees(t *testing.T, b string) api.Errno {
	t.Helper()
	c, table, k, e := plainGet(b)
	gets(t, b, c, table, k, e)
	if e != api.OK {
		return e
	}
	if !head.Right(c) {
		t.Errorf("Get(%s) = %s, that may not be", brief(b), brief(c))
	}
	c.Ops = speaks(table...)
	if string(head.Put(c)) != b[:k] {
		t.Errorf("Get(%s): the same, of other bytes", brief(b))
	}
	return e
}

// reads tells a test that what may be hasn't the bytes that it should have, isn't read from them as it was, whatever stands behind them, or is read from some of them.
func reads(t *testing.T, c api.Change) {
	t.Helper()
	if !head.Right(c) {
		t.Errorf("Right(%s) is false", brief(c))
	}
	b := string(head.Put(c))
	if b != plainPut(c) {
		t.Errorf("Put(%s) = %s; want %s", brief(c), brief(b), brief(plainPut(c)))
	}
	table := actors.Table(c.Actor, c.Ops...)
	for _, behind := range []string{"", "\x00", "\x01a", "\x80", "\xff\xff\xff\xff\xff\xff\xff\xff\xff\xff\xff"} {
		gets(t, b+behind, c, table, len(b), api.OK)
	}
	for i := range b {
		gets(t, b[:i], api.Change{}, nil, 0, api.ErrShort)
	}
}

func TestBytes(t *testing.T) {
	for i, x := range []struct {
		c api.Change
		b string
	}{
		{least(), "\x00\x01a\x01\x01\x00\x00\x00"}, // the chapter's example
		{with(func(c *api.Change) { c.Actor = sixteen }), "\x00\x10" + sixteen + "\x01\x01\x00\x00\x00"},
		{with(func(c *api.Change) { c.Actor = "\x00" }), "\x00\x01\x00\x01\x01\x00\x00\x00"},
		{with(func(c *api.Change) { c.Actor = "\xff\xfe" }), "\x00\x02\xff\xfe\x01\x01\x00\x00\x00"},
		{with(func(c *api.Change) { c.Seq = 2 }), "\x00\x01a\x02\x01\x00\x00\x00"},
		{with(func(c *api.Change) { c.Seq = 127 }), "\x00\x01a\x7f\x01\x00\x00\x00"},
		{with(func(c *api.Change) { c.Seq = 128 }), "\x00\x01a\x80\x01\x01\x00\x00\x00"},
		{with(func(c *api.Change) { c.Seq = 1<<53 - 1 }), "\x00\x01a\xff\xff\xff\xff\xff\xff\xff\x0f\x01\x00\x00\x00"},
		{with(func(c *api.Change) { c.Start = 300 }), "\x00\x01a\x01\xac\x02\x00\x00\x00"},
		{with(func(c *api.Change) { c.Start = 1<<53 - 1 }), "\x00\x01a\x01\xff\xff\xff\xff\xff\xff\xff\x0f\x00\x00\x00"},
		{with(func(c *api.Change) { c.Seq, c.Start = 3, 5 }), "\x00\x01a\x03\x05\x00\x00\x00"},
		{with(func(c *api.Change) { c.Time = 1 }), "\x00\x01a\x01\x01\x01\x00\x00"},
		{with(func(c *api.Change) { c.Time = -1 }), "\x00\x01a\x01\x01\x7f\x00\x00"},
		{with(func(c *api.Change) { c.Time = 63 }), "\x00\x01a\x01\x01\x3f\x00\x00"},
		{with(func(c *api.Change) { c.Time = 64 }), "\x00\x01a\x01\x01\xc0\x00\x00\x00"},
		{with(func(c *api.Change) { c.Time = -64 }), "\x00\x01a\x01\x01\x40\x00\x00"},
		{with(func(c *api.Change) { c.Time = -65 }), "\x00\x01a\x01\x01\xbf\x7f\x00\x00"},
		{with(func(c *api.Change) { c.Time = math.MaxInt64 }), "\x00\x01a\x01\x01\xff\xff\xff\xff\xff\xff\xff\xff\xff\x00\x00\x00"},
		{with(func(c *api.Change) { c.Time = math.MinInt64 }), "\x00\x01a\x01\x01\x80\x80\x80\x80\x80\x80\x80\x80\x80\x7f\x00\x00"},
		{with(func(c *api.Change) { c.Message = "hi" }), "\x00\x01a\x01\x01\x00\x02hi\x00"},
		{with(func(c *api.Change) { c.Message = "\x00" }), "\x00\x01a\x01\x01\x00\x01\x00\x00"},
		{with(func(c *api.Change) { c.Message = "h\xc3\xa9" }), "\x00\x01a\x01\x01\x00\x03h\xc3\xa9\x00"},
		{with(func(c *api.Change) { c.Message = strings.Repeat("x", 127) }), "\x00\x01a\x01\x01\x00\x7f" + strings.Repeat("x", 127) + "\x00"},
		{with(func(c *api.Change) { c.Message = strings.Repeat("x", 128) }), "\x00\x01a\x01\x01\x00\x80\x01" + strings.Repeat("x", 128) + "\x00"},
		{with(func(c *api.Change) { c.Message = strings.Repeat("x", 1000) }), "\x00\x01a\x01\x01\x00\xe8\x07" + strings.Repeat("x", 1000) + "\x00"},
		{with(func(c *api.Change) { c.Message = strings.Repeat("\xf0\x9f\x98\x80", 250) }), "\x00\x01a\x01\x01\x00\xe8\x07" + strings.Repeat("\xf0\x9f\x98\x80", 250) + "\x00"},
		{with(func(c *api.Change) { c.Deps = []api.Hash{} }), "\x00\x01a\x01\x01\x00\x00\x00"},
		{with(func(c *api.Change) { c.Deps = []api.Hash{{}} }), "\x01" + strings.Repeat("\x00", 32) + "\x01a\x01\x01\x00\x00\x00"},
		{with(func(c *api.Change) { c.Deps = []api.Hash{{31: 9}} }), "\x01" + strings.Repeat("\x00", 31) + "\x09\x01a\x01\x01\x00\x00\x00"},
		{with(func(c *api.Change) { c.Deps = []api.Hash{{0: 9}, {0: 10}} }), "\x02\x09" + strings.Repeat("\x00", 31) + "\x0a" + strings.Repeat("\x00", 31) + "\x01a\x01\x01\x00\x00\x00"},
		{with(func(c *api.Change) { c.Deps = hashes(16) }), "\x10" + of(hashes(16)...) + "\x01a\x01\x01\x00\x00\x00"},
		{with(func(c *api.Change) { c.Ops = []api.Op{{}, {Keyed: true, Key: "k"}} }), "\x00\x01a\x01\x01\x00\x00\x00"},
		{with(func(c *api.Change) { c.Ops = speaks("a") }), "\x00\x01a\x01\x01\x00\x00\x00"},
		{with(func(c *api.Change) { c.Ops = speaks("zz", "a", "b") }), "\x00\x01a\x01\x01\x00\x00\x02\x01b\x02zz"},
		{with(func(c *api.Change) { c.Ops = append(speaks("c"), speaks("b", sixteen)...) }), "\x00\x01a\x01\x01\x00\x00\x03\x10" + sixteen + "\x01b\x01c"},
		{with(func(c *api.Change) {
			c.Ops = []api.Op{{Obj: api.OpId{Ctr: 1, Actor: "o"}}, {Elem: api.OpId{Ctr: 1, Actor: "e"}}}
		}), "\x00\x01a\x01\x01\x00\x00\x02\x01e\x01o"},
		{api.Change{Actor: "me", Seq: 2, Start: 300, Time: -1, Message: "hi", Deps: []api.Hash{hash("x"), hash("y")}, Ops: speaks("you")},
			"\x02" + of(hash("x"), hash("y")) + "\x02me\x02\xac\x02\x7f\x02hi\x01\x03you"},
	} {
		if b := head.Put(x.c); string(b) != x.b {
			t.Errorf("%d: Put(%s) = %s; want %s", i, brief(x.c), brief(b), brief(x.b))
		}
		reads(t, x.c)
	}
}

// rightOnes answers what may be, at the edges.
func rightOnes() []api.Change {
	var most [32]byte
	for i := range most {
		most[i] = 255
	}
	return []api.Change{
		least(),
		with(func(c *api.Change) { c.Actor = sixteen }),
		with(func(c *api.Change) { c.Actor = "\xff" }),
		with(func(c *api.Change) { c.Actor = strings.Repeat("\x00", 16) }),
		with(func(c *api.Change) { c.Seq = 1<<53 - 1 }),
		with(func(c *api.Change) { c.Start = 1<<53 - 1 }),
		with(func(c *api.Change) { c.Time = math.MinInt64 }),
		with(func(c *api.Change) { c.Time = math.MaxInt64 }),
		with(func(c *api.Change) { c.Time = 1 << 53 }),
		with(func(c *api.Change) { c.Message = strings.Repeat("x", 1000) }),
		with(func(c *api.Change) { c.Message = strings.Repeat("\xc3\xa9", 500) }),
		with(func(c *api.Change) { c.Message = "\x00\xf4\x8f\xbf\xbf" }),
		with(func(c *api.Change) { c.Deps = hashes(16) }),
		with(func(c *api.Change) { c.Deps = []api.Hash{{}} }),
		with(func(c *api.Change) { c.Deps = []api.Hash{most} }),
		with(func(c *api.Change) { c.Deps = []api.Hash{{}, most} }),
		with(func(c *api.Change) { c.Deps = []api.Hash{{0: 127}, {0: 128}} }), // bytes have no sign
		with(func(c *api.Change) { c.Deps = []api.Hash{{31: 127}, {31: 128}, {30: 1}} }),
		with(func(c *api.Change) { c.Deps = []api.Hash{{0: 1, 31: 9}, {0: 2}} }), // the first bytes count most
		with(func(c *api.Change) { c.Deps = []api.Hash{{}, {31: 1}, {31: 2}, {15: 1}, {15: 1, 31: 1}} }),
	}
}

// wrongOnes answers what may not be, of each thing that may be wrong.
func wrongOnes() []api.Change {
	l := []api.Change{
		{},
		with(func(c *api.Change) { c.Actor = "" }),
		with(func(c *api.Change) { c.Actor = seventeen }),
		with(func(c *api.Change) { c.Actor = strings.Repeat("a", 256+1) }),
		with(func(c *api.Change) { c.Deps = hashes(17) }),
		with(func(c *api.Change) { c.Deps = hashes(256) }),
		with(func(c *api.Change) { c.Deps = make([]api.Hash, 2) }),
		with(func(c *api.Change) { c.Deps = []api.Hash{{5: 1}, {5: 1}} }),
		with(func(c *api.Change) { c.Deps = []api.Hash{{5: 1}, {6: 1}} }),
		with(func(c *api.Change) { c.Deps = []api.Hash{{0: 2}, {0: 1, 1: 9}} }),
		with(func(c *api.Change) { c.Deps = []api.Hash{{31: 1}, {}} }),
		with(func(c *api.Change) { c.Deps = []api.Hash{{0: 128}, {0: 127}} }),
		with(func(c *api.Change) { c.Deps = []api.Hash{{0: 1}, {0: 3}, {0: 2}} }),
		with(func(c *api.Change) { c.Deps = []api.Hash{{0: 2}, {0: 1}, {0: 3}} }),
		with(func(c *api.Change) { c.Deps = append(hashes(15), hashes(1)...) }),
		with(func(c *api.Change) { c.Message = strings.Repeat("x", 1001) }),
		with(func(c *api.Change) { c.Message = strings.Repeat("x", 1<<16) }),
		with(func(c *api.Change) { c.Message = strings.Repeat("\xc3\xa9", 501) }),
	}
	for _, n := range []int64{0, -1, 1 << 53, math.MaxInt64, math.MinInt64} {
		l = append(l, with(func(c *api.Change) { c.Seq = n }), with(func(c *api.Change) { c.Start = n }))
	}
	for _, s := range []string{"\xff", "\x80", "a\xc3", "\xc0\x80", "\xed\xa0\x80", "\xf4\x90\x80\x80", strings.Repeat("x", 999) + "\xc3"} {
		l = append(l, with(func(c *api.Change) { c.Message = s }))
	}
	return l
}

func TestRight(t *testing.T) {
	for _, c := range rightOnes() {
		if !plainRight(c) {
			t.Errorf("the chapter's words refuse %s", brief(c))
		}
		reads(t, c)
		c.Ops = []api.Op{{Key: "k", Insert: true, Action: -1}, {Preds: make([]api.OpId, 17), Obj: api.OpId{Ctr: -1, Actor: seventeen}}}
		if !head.Right(c) {
			t.Errorf("Right(%s) hangs on ops", brief(c))
		}
		c.Ops = make([]api.Op, 2001)
		if !head.Right(c) {
			t.Errorf("Right(%s) hangs on how many ops there are", brief(c))
		}
	}
	for _, c := range wrongOnes() {
		if head.Right(c) || plainRight(c) {
			t.Errorf("Right(%s)", brief(c))
		}
	}
}

// TestErrors holds which error is the first, where several things are wrong.
func TestErrors(t *testing.T) {
	long := strings.Repeat("\x80", 10)
	great := string(leb.U(math.MaxUint64))
	beyond := string(leb.U(1 << 53))
	one, two := of(hash("x")), of(hash("y"))
	for _, c := range []struct {
		name, b string
		e       api.Errno
	}{
		{"no bytes", "", api.ErrShort},
		{"how many Deps, that ends too soon", "\x80", api.ErrShort},
		{"how many Deps, in a longer form", "\x80\x00\x01a\x01\x01\x00\x00\x00", api.ErrForm},
		{"how many Deps, of more than ten bytes", long, api.ErrForm},
		{"how many Deps, above 2^64 - 1", great[:9] + "\x02", api.ErrForm},
		{"17 Deps", "\x11", api.ErrLong},
		{"17 Deps that are there", "\x11" + of(hashes(17)...) + "\x01a\x01\x01\x00\x00\x00", api.ErrLong},
		{"17 Deps, none greater than the one ahead", "\x11" + strings.Repeat("\x00", 17*32), api.ErrLong},
		{"256 Deps", "\x80\x02", api.ErrLong},
		{"2^32 + 1 Deps", string(leb.U(1<<32+1)) + one + "\x01a", api.ErrLong},
		{"2^63 Deps", string(leb.U(1<<63)) + one, api.ErrLong},
		{"2^64 - 1 Deps", great, api.ErrLong},
		{"one Dep that isn't there", "\x01", api.ErrShort},
		{"one Dep without its last byte", "\x01" + one[:31], api.ErrShort},
		{"a second Dep that isn't there", "\x02" + one, api.ErrShort},
		{"a second Dep that is lesser, without its last byte", "\x02" + two + one[:31], api.ErrShort},
		{"a second Dep that is lesser", "\x02" + two + one, api.ErrForm},
		{"a second Dep that is lesser, behind it a length of 17", "\x02" + two + one + "\x11", api.ErrForm},
		{"a second Dep that is the first one", "\x02" + one + one, api.ErrForm},
		{"a second Dep of zeros, and the first one of zeros", "\x02" + of(hashes(1)...) + of(hashes(1)...), api.ErrForm},
		{"a second Dep that is lesser, a third one that isn't there", "\x03" + two + one, api.ErrForm},
		{"a second Dep that is lesser, a third one that is greater", "\x03" + two + one + of(hash("z")) + "\x01a\x01\x01\x00\x00\x00", api.ErrForm},
		{"a third Dep that is the first one", "\x03" + one + two + one, api.ErrForm},
		{"a 16th Dep that is the one ahead", "\x10" + of(hashes(15)...) + of(hashes(15)[14]), api.ErrForm},
		{"no Actor's length", "\x00", api.ErrShort},
		{"no Actor's length, behind a Dep", "\x01" + one, api.ErrShort},
		{"an Actor's length that ends too soon", "\x00\x81", api.ErrShort},
		{"an Actor's length in a longer form", "\x00\x81\x00a\x01\x01\x00\x00\x00", api.ErrForm},
		{"an Actor's length of 17 in a longer form", "\x00\x91\x00" + seventeen, api.ErrForm},
		{"an Actor's length of more than ten bytes", "\x00" + long, api.ErrForm},
		{"an Actor's length of 0", "\x00\x00", api.ErrForm},
		{"an Actor's length of 0, and all else", "\x00\x00\x01\x01\x00\x00\x00", api.ErrForm},
		{"an Actor's length of 17", "\x00\x11", api.ErrLong},
		{"an Actor's length of 17, and all else", "\x00\x11" + seventeen + "\x01\x01\x00\x00\x00", api.ErrLong},
		{"an Actor's length of 128", "\x00\x80\x01" + strings.Repeat("a", 128), api.ErrLong},
		{"an Actor's length of 256 + 1", "\x00\x81\x02a\x01\x01\x00\x00\x00", api.ErrLong},
		{"an Actor's length of 2^32 + 1", "\x00" + string(leb.U(1<<32+1)) + "a\x01\x01\x00\x00\x00", api.ErrLong},
		{"an Actor's length of 2^63", "\x00" + string(leb.U(1<<63)), api.ErrLong},
		{"an Actor's length of 2^64 - 1", "\x00" + great, api.ErrLong},
		{"no byte of an Actor", "\x00\x01", api.ErrShort},
		{"15 bytes of 16 of an Actor", "\x00\x10" + sixteen[:15], api.ErrShort},
		{"no Seq", "\x00\x01a", api.ErrShort},
		{"a Seq that ends too soon", "\x00\x01a\x81", api.ErrShort},
		{"a Seq in a longer form", "\x00\x01a\x81\x00\x01\x00\x00\x00", api.ErrForm},
		{"a Seq of 0", "\x00\x01a\x00", api.ErrForm},
		{"a Seq of 0, and all else", "\x00\x01a\x00\x01\x00\x00\x00", api.ErrForm},
		{"a Seq of 0, and a Start of 2^53", "\x00\x01a\x00" + beyond, api.ErrForm},
		{"a Seq of 2^53", "\x00\x01a" + beyond, api.ErrLong},
		{"a Seq of 2^53, and all else", "\x00\x01a" + beyond + "\x01\x00\x00\x00", api.ErrLong},
		{"a Seq of 2^53, and a Start of 0", "\x00\x01a" + beyond + "\x00", api.ErrLong},
		{"a Seq of 2^63", "\x00\x01a" + string(leb.U(1<<63)) + "\x01\x00\x00\x00", api.ErrLong},
		{"a Seq of 2^63 + 1", "\x00\x01a" + string(leb.U(1<<63+1)) + "\x01\x00\x00\x00", api.ErrLong},
		{"a Seq of 2^64 - 1", "\x00\x01a" + great, api.ErrLong},
		{"a Seq of more than ten bytes", "\x00\x01a" + long, api.ErrForm},
		{"no Start", "\x00\x01a\x01", api.ErrShort},
		{"a Start that ends too soon", "\x00\x01a\x01\x81", api.ErrShort},
		{"a Start in a longer form", "\x00\x01a\x01\x81\x00\x00\x00\x00", api.ErrForm},
		{"a Start of 0", "\x00\x01a\x01\x00", api.ErrForm},
		{"a Start of 0, and all else", "\x00\x01a\x01\x00\x00\x00\x00", api.ErrForm},
		{"a Start of 0, and a Message of 1001 bytes", "\x00\x01a\x01\x00\x00\xe9\x07", api.ErrForm},
		{"a Start of 2^53", "\x00\x01a\x01" + beyond, api.ErrLong},
		{"a Start of 2^53, and all else", "\x00\x01a\x01" + beyond + "\x00\x00\x00", api.ErrLong},
		{"a Start of 2^64 - 1", "\x00\x01a\x01" + great, api.ErrLong},
		{"no Time", "\x00\x01a\x01\x01", api.ErrShort},
		{"a Time that ends too soon", "\x00\x01a\x01\x01\x80", api.ErrShort},
		{"a Time in a longer form", "\x00\x01a\x01\x01\x80\x00\x00\x00", api.ErrForm},
		{"a Time below 0 in a longer form", "\x00\x01a\x01\x01\xff\x7f\x00\x00", api.ErrForm},
		{"a Time of more than ten bytes", "\x00\x01a\x01\x01" + long, api.ErrForm},
		{"a Time above 2^63 - 1", "\x00\x01a\x01\x01\xff\xff\xff\xff\xff\xff\xff\xff\xff\x01\x00\x00", api.ErrForm},
		{"a Time below -2^63", "\x00\x01a\x01\x01\x80\x80\x80\x80\x80\x80\x80\x80\x80\x7e\x00\x00", api.ErrForm},
		{"no Message's length", "\x00\x01a\x01\x01\x00", api.ErrShort},
		{"a Message's length that ends too soon", "\x00\x01a\x01\x01\x00\x80", api.ErrShort},
		{"a Message's length in a longer form", "\x00\x01a\x01\x01\x00\x80\x00\x00", api.ErrForm},
		{"a Message's length of 1001", "\x00\x01a\x01\x01\x00\xe9\x07", api.ErrLong},
		{"a Message's length of 1001, and all else", "\x00\x01a\x01\x01\x00\xe9\x07" + strings.Repeat("x", 1001) + "\x00", api.ErrLong},
		{"a Message's length of 1001 of no UTF-8", "\x00\x01a\x01\x01\x00\xe9\x07" + strings.Repeat("\xff", 1001) + "\x00", api.ErrLong},
		{"a Message's length of 2^63", "\x00\x01a\x01\x01\x00" + string(leb.U(1<<63)), api.ErrLong},
		{"a Message's length of 2^64 - 1", "\x00\x01a\x01\x01\x00" + great, api.ErrLong},
		{"no byte of a Message", "\x00\x01a\x01\x01\x00\x01", api.ErrShort},
		{"a Message that isn't UTF-8, without its last byte", "\x00\x01a\x01\x01\x00\x02\xff", api.ErrShort},
		{"a Message without its last byte", "\x00\x01a\x01\x01\x00\x02\xc3", api.ErrShort},
		{"999 bytes of 1000 of a Message", "\x00\x01a\x01\x01\x00\xe8\x07" + strings.Repeat("x", 999), api.ErrShort},
		{"a Message that isn't UTF-8", "\x00\x01a\x01\x01\x00\x01\xff", api.ErrForm},
		{"a Message that isn't UTF-8, and no table", "\x00\x01a\x01\x01\x00\x02a\x80\x80", api.ErrForm},
		{"a Message that isn't UTF-8, and a table of one of 17 bytes", "\x00\x01a\x01\x01\x00\x02a\xc3\x01\x11", api.ErrForm},
		{"a Message whose last character goes on behind it", "\x00\x01a\x01\x01\x00\x02a\xc3\xa9\x00", api.ErrForm},
		{"no table", "\x00\x01a\x01\x01\x00\x00", api.ErrShort},
		{"a table that ends too soon", "\x00\x01a\x01\x01\x00\x00\x80", api.ErrShort},
		{"a table in a longer form", "\x00\x01a\x01\x01\x00\x00\x80\x00", api.ErrForm},
		{"a table of one who isn't there", "\x00\x01a\x01\x01\x00\x00\x01", api.ErrShort},
		{"a table of one of no bytes", "\x00\x01a\x01\x01\x00\x00\x01\x00", api.ErrLong},
		{"a table of one of 17 bytes", "\x00\x01a\x01\x01\x00\x00\x01\x11" + seventeen, api.ErrLong},
		{"a table of the Actor", "\x00\x01a\x01\x01\x00\x00\x01\x01a", api.ErrForm},
		{"a table of one twice", "\x00\x01a\x01\x01\x00\x00\x02\x01b\x01b", api.ErrForm},
		{"a table of one without a byte", "\x00\x01a\x01\x01\x00\x00\x01\x01", api.ErrShort},
		{"a table of 2^64 - 1", "\x00\x01a\x01\x01\x00\x00" + great + "\x01b", api.ErrShort},
	} {
		if got, table, k, e := head.Get([]byte(c.b)); e != c.e || !same(got, api.Change{}) || len(got.Ops) != 0 || len(table) != 0 || k != 0 {
			t.Errorf("%s: %s, %q, %d, %d; want %d", c.name, brief(got), table, k, e, c.e)
		}
		if e := agrees(t, c.b); e != c.e {
			t.Errorf("%s: the chapter's words have %d", c.name, e)
		}
	}
}

// TestNeighbours holds what is nearly refused.
func TestNeighbours(t *testing.T) {
	for _, b := range []string{
		"\x00\x01a\x01\x01\x00\x00\x00",
		"\x00\x10" + sixteen + "\x01\x01\x00\x00\x00",
		"\x10" + of(hashes(16)...) + "\x01a\x01\x01\x00\x00\x00",
		"\x02" + of(hash("x"), hash("x\x00\x01")) + "\x01a\x01\x01\x00\x00\x00",
		"\x02" + of(hash("\x7f"), hash("\x80")) + "\x01a\x01\x01\x00\x00\x00",
		"\x00\x01a" + string(leb.U(1<<53-1)) + "\x01\x00\x00\x00",
		"\x00\x01a\x01" + string(leb.U(1<<53-1)) + "\x00\x00\x00",
		"\x00\x01a\x01\x01" + string(leb.S(math.MinInt64)) + "\x00\x00",
		"\x00\x01a\x01\x01" + string(leb.S(math.MaxInt64)) + "\x00\x00",
		"\x00\x01a\x01\x01\x00\xe8\x07" + strings.Repeat("x", 1000) + "\x00",
		"\x00\x01a\x01\x01\x00\x03a\xc3\xa9\x00",
		"\x00\x01a\x01\x01\x00\x02\xc3\xa9\x00",
		"\x00\x01\xff\x01\x01\x00\x00\x00", // an actor needn't be UTF-8
		"\x00\x01b\x01\x01\x00\x00\x01\x01a",
		"\x00\x01a\x01\x01\x00\x00\x02\x01b\x01c",
		"\x00\x01a\x01\x01\x00\x00\x01\x10" + sixteen,
	} {
		for _, behind := range []string{"", "\x00", "\x80", "\xff\xff\xff\xff\xff\xff\xff\xff\xff\xff\xff"} {
			if e := agrees(t, b+behind); e != api.OK {
				t.Errorf("Get(%s): %d", brief(b+behind), e)
			}
		}
	}
}

// TestAllShortBytes holds all rows of some bytes behind some beginnings.
func TestAllShortBytes(t *testing.T) {
	met := map[api.Errno]int{}
	for _, x := range []struct {
		ahead, letters string
		most           int
	}{
		{"", "\x00\x01\x02\x80a", 7},
		{"\x00\x01a", "\x00\x01\x02\x80b", 6},
		{"\x01" + of(hash("x")), "\x00\x01\x80\xff", 8},
		{"\x00\x01a\x01\x01", "\x00\x01\x02\x03\xc3\xa9b", 6},
		{"\x02" + of(hash("x")) + of(hash("y"))[:30], "\x00\x01\x02", 9},
	} {
		rows := []string{x.ahead}
		for range x.most + 1 {
			var longer []string
			for _, b := range rows {
				met[agrees(t, b)]++
				for i := range x.letters {
					longer = append(longer, b+x.letters[i:i+1])
				}
			}
			if t.Failed() {
				return
			}
			rows = longer
		}
	}
	for _, e := range []api.Errno{api.OK, api.ErrShort, api.ErrForm, api.ErrLong} {
		if met[e] < 20 {
			t.Errorf("the error %d was met %d times", e, met[e])
		}
	}
}

// drawnDeps answers some hashes, rising, many of which begin alike.
func drawnDeps(rnd *rand.Rand) []api.Hash {
	var l []api.Hash
	for range rnd.IntN(4) * rnd.IntN(6) {
		var h api.Hash
		for range rnd.IntN(4) {
			h[rnd.IntN(32)] = byte(rnd.IntN(256))
		}
		l = append(l, h)
	}
	slices.SortFunc(l, func(a, b api.Hash) int { return bytes.Compare(a[:], b[:]) })
	return slices.Compact(l)
}

// drawn answers what may be, of fields that are drawn.
func drawn(rnd *rand.Rand) api.Change {
	some := []string{"a", "b", "aa", "\x00", "\xff", "\xc3\xa9", sixteen, sixteen[:15], strings.Repeat("\xff", 16)}
	number := func() int64 { return 1 + rnd.Int64N(1<<rnd.IntN(54)) }
	c := api.Change{Actor: some[rnd.IntN(len(some))], Seq: min(number(), 1<<53-1), Start: min(number(), 1<<53-1), Deps: drawnDeps(rnd)}
	c.Time = rnd.Int64N(1<<rnd.IntN(63)) * (1 - 2*rnd.Int64N(2))
	for range rnd.IntN(3) * rnd.IntN(6) {
		c.Message += []string{"x", "\x00", "\xc3\xa9", "\xe2\x82\xac", "\xf0\x9f\x98\x80"}[rnd.IntN(5)]
	}
	for range rnd.IntN(3) {
		var l []string
		for range rnd.IntN(4) {
			l = append(l, some[rnd.IntN(len(some))])
		}
		c.Ops = append(c.Ops, speaks(l...)...)
	}
	return c
}

func TestWhatIsPutIsRead(t *testing.T) {
	rnd := rand.New(rand.NewPCG(20, 1))
	for range 3000 {
		reads(t, drawn(rnd))
		if t.Failed() {
			return
		}
	}
}

// TestRightOfDrawn holds what may be, and, one field being another one, may not.
func TestRightOfDrawn(t *testing.T) {
	rnd := rand.New(rand.NewPCG(20, 2))
	met := map[bool]int{}
	numbers := []int64{math.MinInt64, -1, 0, 1, 1<<53 - 1, 1 << 53, math.MaxInt64}
	for range 50000 {
		c := drawn(rnd)
		switch rnd.IntN(7) {
		case 0:
			c.Actor = strings.Repeat("x", rnd.IntN(20))
		case 1:
			c.Seq = numbers[rnd.IntN(len(numbers))]
		case 2:
			c.Start = numbers[rnd.IntN(len(numbers))]
		case 3:
			c.Time = numbers[rnd.IntN(len(numbers))]
		case 4:
			c.Message = strings.Repeat("\xc3\xa9", 480)[rnd.IntN(2):] + c.Message
		case 5:
			rnd.Shuffle(len(c.Deps), func(i, j int) { c.Deps[i], c.Deps[j] = c.Deps[j], c.Deps[i] })
		case 6:
			c.Deps = append(c.Deps, hashes(rnd.IntN(4))...)
		}
		want := plainRight(c)
		if head.Right(c) != want {
			t.Fatalf("Right(%s) = %t", brief(c), !want)
		}
		met[want]++
	}
	if met[true] < 5000 || met[false] < 5000 {
		t.Errorf("met: %v", met)
	}
}

// wrong answers bytes, of which, now and then, some are others, too many, or too few.
func wrong(rnd *rand.Rand, s string) string {
	b := []byte(s)
	letters := []byte{0, 1, 2, 3, 16, 17, 127, 128, 129, 255, 'a', 'b'}
	for range rnd.IntN(3) {
		at := rnd.IntN(len(b) + 1)
		switch x := letters[rnd.IntN(len(letters))]; {
		case rnd.IntN(3) == 0 || at == len(b):
			b = slices.Insert(b, at, x)
		case rnd.IntN(2) == 0:
			b = slices.Delete(b, at, at+1)
		default:
			b[at] = x
		}
	}
	if rnd.IntN(8) == 0 {
		b = b[:rnd.IntN(len(b)+1)]
	}
	return string(b)
}

// TestOneFormAlone hands in bytes of all sorts: what is read is put as just these, and all else is refused as the chapter has it.
func TestOneFormAlone(t *testing.T) {
	rnd := rand.New(rand.NewPCG(20, 3))
	met := map[api.Errno]int{}
	for range 100000 {
		met[agrees(t, wrong(rnd, plainPut(drawn(rnd))))]++
		if t.Failed() {
			return
		}
	}
	// What may not be is refused, too, when it is told.
	for _, c := range wrongOnes() {
		if e := agrees(t, plainPut(c)); e != api.ErrForm && e != api.ErrLong {
			t.Errorf("Get of the bytes of %s: %d", brief(c), e)
		}
	}
	for _, e := range []api.Errno{api.OK, api.ErrShort, api.ErrForm, api.ErrLong} {
		if met[e] < 100 {
			t.Errorf("the error %d was met %d times", e, met[e])
		}
	}
}

// fill fills bytes, spare room included.
func fill(b []byte, x byte) {
	for i := range b[:cap(b)] {
		b[:cap(b)][i] = x
	}
}

// TestMemoryOfPut holds that what is put isn't changed or kept, spare room included, and that answers share no memory.
func TestMemoryOfPut(t *testing.T) {
	for _, n := range []int{0, 1, 2, 16} {
		deps := append(hashes(n), hash("room"))
		ops := append(speaks("you", "b"), api.Op{Action: 7})
		names := append(slices.Clone(ops[0].Preds), api.OpId{Ctr: 9, Actor: "room"})
		ops[0].Preds = names[:2]
		c := with(func(c *api.Change) { c.Message, c.Deps, c.Ops = "hi", deps[:n], ops[:1] })
		want := plainPut(c)
		b := head.Put(c)
		fill(head.Put(c), 99)
		if !head.Right(c) || !slices.Equal(deps, append(hashes(n), hash("room"))) || ops[1].Action != 7 ||
			!op.Same(ops[0], speaks("you", "b")[0]) || names[2] != (api.OpId{Ctr: 9, Actor: "room"}) || plainPut(c) != want {
			t.Errorf("%d: what was handed in was changed", n)
		}
		for i := range deps {
			deps[i] = hash("spoilt")
		}
		clear(ops)
		clear(names)
		if string(b) != want {
			t.Errorf("%d: the answer became %s", n, brief(b))
		}
	}
}

// TestMemoryOfGet holds that bytes aren't changed or kept, spare room included, and that answers share no memory.
func TestMemoryOfGet(t *testing.T) {
	for _, n := range []int{0, 1, 2, 16} {
		want := api.Change{Actor: "me", Seq: 1, Start: 2, Message: "hi", Deps: hashes(n), Ops: speaks("you", "b")}
		b := plainPut(want)
		room := append([]byte(b), "room"...)
		c, table, _, e := head.Get(room[:len(b)])
		other, names, _, _ := head.Get(room[:len(b)])
		if string(room) != b+"room" || e != api.OK {
			t.Errorf("%d: what was handed in was changed, or %d", n, e)
		}
		fill(room, 99)
		for i := range other.Deps[:cap(other.Deps)] {
			other.Deps[:cap(other.Deps)][i] = hash("spoilt")
		}
		for i := range names[:cap(names)] {
			names[:cap(names)][i] = "spoilt"
		}
		if !same(c, want) || !slices.Equal(table, []string{"me", "b", "you"}) {
			t.Errorf("%d: the answer became %s, %q", n, brief(c), table)
		}
	}
}

// TestTextsAreNew holds that the texts of an answer are pieces neither of what was handed in nor of one another.
func TestTextsAreNew(t *testing.T) {
	want := api.Change{Actor: "author", Seq: 1, Start: 1, Message: "a message", Ops: speaks("another", "one more")}
	b := []byte(plainPut(want))
	c, table, _, e := head.Get(b)
	if e != api.OK || len(table) != 3 {
		t.Fatal(e, table)
	}
	from := uintptr(unsafe.Pointer(&b[0]))
	met := map[uintptr]bool{}
	for _, s := range append([]string{c.Actor, c.Message}, table...) {
		at := uintptr(unsafe.Pointer(unsafe.StringData(s)))
		if at >= from && at < from+uintptr(len(b)) || met[at] {
			t.Errorf("%q is a piece of something else", s)
		}
		met[at] = true
	}
}

// TestEndsAtAnything hands in what may not be: the calls end, change nothing, and such bytes aren't read as what may be.
func TestEndsAtAnything(t *testing.T) {
	many := slices.Repeat([]api.Hash{hash("x")}, 100000)
	for _, c := range append(wrongOnes(),
		with(func(c *api.Change) { c.Deps = many }),
		with(func(c *api.Change) { c.Message = strings.Repeat("\xff", 1<<20) }),
		with(func(c *api.Change) { c.Actor = strings.Repeat("\xff", 1<<20) }),
		with(func(c *api.Change) { c.Ops = speaks("", "b") }),
		with(func(c *api.Change) { c.Ops = speaks(seventeen, strings.Repeat("x", 1<<20)) }),
	) {
		given := c
		given.Deps, given.Ops = slices.Clone(c.Deps), op.Copy(c.Ops...)
		head.Right(given)
		b := head.Put(given)
		if !same(given, c) || !slices.EqualFunc(given.Ops, c.Ops, op.Same) {
			t.Errorf("%s was changed", brief(c))
		}
		if e := agrees(t, string(b)); e == api.OK {
			t.Errorf("the bytes of %s are read", brief(c))
		}
	}
	for _, n := range []int{1, 127, 128, 20000} {
		var l []string
		for i := range n {
			l = append(l, fmt.Sprintf("%x", i+1<<20))
		}
		c := with(func(c *api.Change) { c.Ops = speaks(l...) })
		b := head.Put(c)
		if string(b) != plainPut(c) {
			t.Errorf("of %d actors: other bytes", n)
		}
		gets(t, string(b), c, append([]string{"a"}, l...), len(b), api.OK)
	}
}
