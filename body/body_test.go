package body_test

import (
	"crypto/sha256"
	"fmt"
	"math"
	"math/rand/v2"
	"reflect"
	"slices"
	"strings"
	"testing"
	"unsafe"

	"inkwell/api"
	"inkwell/body"
	"inkwell/cols"
	"inkwell/dir"
	"inkwell/head"
	"inkwell/leb"
	"inkwell/op"
)

const (
	sixteen   = "0123456789abcdef"
	seventeen = sixteen + "g"
)

// brief answers what is told of anything, but its middle, if it is long.
func brief(x any) string {
	s := fmt.Sprintf("%+q", x)
	if len(s) <= 600 {
		return s
	}
	return s[:300] + " .. " + s[len(s)-300:]
}

func id(ctr int64, actor string) api.OpId {
	return api.OpId{Ctr: ctr, Actor: actor}
}

// names answers so many names, rising.
func names(n int) []api.OpId {
	var l []api.OpId
	for i := range n {
		l = append(l, id(int64(i)+1, "m"))
	}
	return l
}

// hashes answers so many hashes, rising by their last bytes.
func hashes(n int) []api.Hash {
	l := make([]api.Hash, n)
	for i := range l {
		l[i][31] = byte(i)
	}
	return l
}

// of answers a change that may be, of which nothing but ops is told that needn't be.
func of(l ...api.Op) api.Change {
	return api.Change{Actor: "a", Seq: 1, Start: 1, Ops: l}
}

// with answers the change without ops, another one in what f changes.
func with(f func(c *api.Change)) api.Change {
	c := of()
	f(&c)
	return c
}

// keyed answers an op with a key, and a value of bytes.
func keyed(key, val string) api.Op {
	return api.Op{Keyed: true, Key: key, Val: api.Value{Kind: api.Bytes, S: val}}
}

// full answers a change of so many bytes, 2^20 or near it, with values as long as may be, and a message that makes up for the rest.
func full(t *testing.T, size int) api.Change {
	t.Helper()
	c := of(slices.Repeat([]api.Op{keyed("k", strings.Repeat("\xff", 4000))}, 262)...)
	c.Message = strings.Repeat("x", 200)
	c.Message = strings.Repeat("x", 200+size-len(plainPut(c)))
	if len(plainPut(c)) != size || len(c.Message) < 128 || len(c.Message) > 1000 {
		t.Fatalf("the change has %d bytes, %d of them of a message", len(plainPut(c)), len(c.Message))
	}
	return c
}

// plainSame tells whether changes are alike, a list without elements being one, nil or not.
func plainSame(a, b api.Change) bool {
	return reflect.DeepEqual(plain(a), plain(b))
}

// plain answers a change without lists that have no elements.
func plain(c api.Change) api.Change {
	if len(c.Deps) == 0 {
		c.Deps = nil
	}
	c.Ops = append([]api.Op(nil), c.Ops...)
	for i := range c.Ops {
		if len(c.Ops[i].Preds) == 0 {
			c.Ops[i].Preds = nil
		}
	}
	return c
}

// plainTable answers by chapter 18's words who is spoken of.
func plainTable(c api.Change) []string {
	var l []string
	for _, x := range op.Names(c.Ops...) {
		if x.Actor != c.Actor {
			l = append(l, x.Actor)
		}
	}
	slices.Sort(l)
	return append([]string{c.Actor}, slices.Compact(l)...)
}

// plainPut answers by the chapters' words the bytes.
func plainPut(c api.Change) string {
	var b strings.Builder
	number := func(n int) { b.Write(leb.U(uint64(n))) }
	text := func(s string) {
		number(len(s))
		b.WriteString(s)
	}
	number(len(c.Deps))
	for _, h := range c.Deps {
		b.Write(h[:])
	}
	text(c.Actor)
	number(int(c.Seq))
	number(int(c.Start))
	b.Write(leb.S(c.Time))
	text(c.Message)
	table := plainTable(c)
	number(len(table) - 1)
	for _, a := range table[1:] {
		text(a)
	}
	columns := cols.Put(table, c.Ops...)
	number(len(columns))
	for _, x := range columns {
		number(x.Id)
		number(len(x.Data))
	}
	for _, x := range columns {
		b.Write(x.Data)
	}
	return b.String()
}

// plainRight tells by the chapter's words whether a change may be.
func plainRight(c api.Change) bool {
	return head.Right(c) && len(c.Ops) <= 2000 && op.Right(c.Ops...) && len(plainPut(c)) <= 1<<20
}

// plainGet answers by the chapter's words the change whose bytes these are.
func plainGet(b string) (api.Change, api.Errno) {
	if len(b) > 1<<20 {
		return api.Change{}, api.ErrLong
	}
	c, table, n, e := head.Get([]byte(b))
	if e != api.OK {
		return api.Change{}, e
	}
	columns, e := dir.Get([]byte(b[n:]))
	if e != api.OK {
		return api.Change{}, e
	}
	if c.Ops, e = cols.Get(table, columns); e != api.OK {
		return api.Change{}, e
	}
	if !slices.Equal(plainTable(c), table) || !plainRight(c) {
		return api.Change{}, api.ErrForm
	}
	return c, api.OK
}

// plainHash answers by the chapter's words the hash of a change's bytes.
func plainHash(b string) api.Hash {
	return sha256.Sum256(append(append([]byte{1}, leb.U(uint64(len(b)))...), b...))
}

// gets tells a test that bytes aren't read as they should be; bytes behind them, in spare room, count for nothing.
func gets(t *testing.T, b string, want api.Change, e api.Errno) {
	t.Helper()
	room := append([]byte(b), "\x00\x01a\x01\x01\x00\x00\x00\x00"...)
	if c, x := body.Get(room[:len(b)]); !plainSame(c, want) || x != e {
		t.Errorf("Get(%s) = %s, %d; want %s, %d", brief(b), brief(c), x, brief(want), e)
	}
}

// agrees tells a test that bytes aren't read as the chapter's words have it, or that they aren't those of what is read; it answers the error.
func agrees(t *testing.T, b string) api.Errno {
	t.Helper()
	c, e := plainGet(b)
	gets(t, b, c, e)
	if e == api.OK && (!body.Right(c) || string(body.Put(c)) != b) {
		t.Errorf("Get(%s) = %s, that may not be, or has other bytes", brief(b), brief(c))
	}
	return e
}

// reads tells a test that a change that may be hasn't the bytes, or the hash, that it should have, or isn't read from these as it was.
func reads(t *testing.T, c api.Change) {
	t.Helper()
	if !body.Right(c) || !plainRight(c) {
		t.Errorf("Right(%s) = %t", brief(c), body.Right(c))
	}
	want := plainPut(c)
	if b := string(body.Put(c)); b != want {
		t.Errorf("Put(%s) = %s; want %s", brief(c), brief(b), brief(want))
	}
	if h := body.Hash(c); h != plainHash(want) || h != body.HashOf([]byte(want)) {
		t.Errorf("Hash(%s) = %x; want %x", brief(c), h, plainHash(want))
	}
	gets(t, want, c, api.OK)
}

// cut tells a test that bytes of a change are read without the last ones, or with one more.
func cut(t *testing.T, c api.Change) {
	t.Helper()
	b := plainPut(c)
	for i := range b {
		gets(t, b[:i], api.Change{}, api.ErrShort)
	}
	for _, more := range []string{"\x00", "\x01", "\x80", "\xff", b} {
		gets(t, b+more, api.Change{}, api.ErrForm)
	}
}

func TestKind(t *testing.T) {
	if body.Kind != 1 {
		t.Errorf("Kind is %d", body.Kind)
	}
}

func TestBytes(t *testing.T) {
	for i, x := range []struct {
		c api.Change
		b string
	}{
		{of(), "\x00\x01a\x01\x01\x00\x00\x00\x00"}, // the chapter's example
		{of([]api.Op{}...), "\x00\x01a\x01\x01\x00\x00\x00\x00"},
		{of(api.Op{}), "\x00\x01a\x01\x01\x00\x00\x00\x02\x13\x02\x42\x02\x7f\x00\x7f\x00"},
		{of(api.Op{}, api.Op{}), "\x00\x01a\x01\x01\x00\x00\x00\x02\x13\x02\x42\x02\x02\x00\x02\x00"},
		{of(api.Op{Elem: id(1, "a")}), "\x00\x01a\x01\x01\x00\x00\x00\x03\x11\x02\x13\x02\x42\x02\x7f\x00\x7f\x01\x7f\x00"},
		{of(api.Op{Elem: id(1, "b")}), "\x00\x01a\x01\x01\x00\x00\x01\x01b\x03\x11\x02\x13\x02\x42\x02\x7f\x01\x7f\x01\x7f\x00"},
		{of(api.Op{Obj: id(2, "c"), Keyed: true, Key: "k", Preds: []api.OpId{id(1, "b")}}),
			"\x00\x01a\x01\x01\x00\x00\x02\x01b\x01c\x07\x01\x02\x02\x02\x15\x03\x42\x02\x70\x02\x71\x02\x73\x02\x7f\x02\x7f\x02\x7f\x01k\x7f\x00\x7f\x01\x7f\x01\x7f\x01"},
		{api.Change{Actor: "b", Seq: 2, Start: 3, Time: -1, Message: "hi", Deps: hashes(1), Ops: []api.Op{{Elem: id(1, "a"), Insert: true, Action: 5}}},
			"\x01" + strings.Repeat("\x00", 32) + "\x01b\x02\x03\x7f\x02hi\x01\x01a\x04\x11\x02\x13\x02\x34\x02\x42\x02\x7f\x01\x7f\x01\x00\x01\x7f\x05"},
		{of(keyed("k", "\x00\xff")), "\x00\x01a\x01\x01\x00\x00\x00\x04\x15\x03\x42\x02\x56\x02\x57\x02\x7f\x01k\x7f\x00\x7f\x26\x00\xff"},
	} {
		if b := body.Put(x.c); string(b) != x.b {
			t.Errorf("%d: Put(%s) = %s; want %s", i, brief(x.c), brief(b), brief(x.b))
		}
		reads(t, x.c)
		cut(t, x.c)
	}
}

// rightOnes answers changes that may be, at the edges.
func rightOnes(t *testing.T) []api.Change {
	const most = 1<<53 - 1
	return []api.Change{
		of(),
		with(func(c *api.Change) { c.Actor = sixteen }),
		with(func(c *api.Change) { c.Actor, c.Ops = "\xff", []api.Op{{Obj: id(1, "\x00"), Elem: id(1, "\xff")}} }),
		with(func(c *api.Change) { c.Seq, c.Start = most, most }),
		with(func(c *api.Change) { c.Time = math.MinInt64 }),
		with(func(c *api.Change) { c.Time = math.MaxInt64 }),
		with(func(c *api.Change) { c.Message = strings.Repeat("\xc3\xa9", 500) }),
		with(func(c *api.Change) { c.Deps = hashes(16) }),
		of(api.Op{Obj: id(most, sixteen), Elem: id(most, sixteen), Action: 1000, Preds: names(16)}),
		of(api.Op{Keyed: true}, api.Op{Insert: true}, api.Op{Preds: []api.OpId{}}),
		of(keyed(strings.Repeat("k", 4000), strings.Repeat("\xff", 4000))),
		of(api.Op{Val: api.Value{Kind: api.Uint, U: math.MaxUint64}}, api.Op{Val: api.Value{Kind: api.Time, N: math.MinInt64}}),
		of(make([]api.Op, 1999)...),
		of(make([]api.Op, 2000)...),
		of(slices.Repeat([]api.Op{{Obj: id(7, "b"), Elem: id(8, "c"), Insert: true, Preds: names(16)}}, 2000)...),
		of(slices.Repeat([]api.Op{keyed(strings.Repeat("k", 4000), "")}, 2000)...), // what is the same is told once
		full(t, 1<<20-1),
		full(t, 1<<20),
	}
}

// wrongOnes answers changes that may not be, of each thing that may be wrong.
func wrongOnes(t *testing.T) []api.Change {
	l := []api.Change{
		{},
		with(func(c *api.Change) { c.Actor = "" }),
		with(func(c *api.Change) { c.Actor = seventeen }),
		with(func(c *api.Change) { c.Seq = 0 }),
		with(func(c *api.Change) { c.Seq = -1 }),
		with(func(c *api.Change) { c.Seq = 1 << 53 }),
		with(func(c *api.Change) { c.Start = 0 }),
		with(func(c *api.Change) { c.Start = math.MinInt64 }),
		with(func(c *api.Change) { c.Start = 1 << 53 }),
		with(func(c *api.Change) { c.Message = strings.Repeat("x", 1001) }),
		with(func(c *api.Change) { c.Message = "\xff" }),
		with(func(c *api.Change) { c.Deps = hashes(17) }),
		with(func(c *api.Change) { c.Deps = make([]api.Hash, 2) }),
		with(func(c *api.Change) { c.Deps = []api.Hash{{1}, {}} }),
		of(make([]api.Op, 2001)...),
		of(make([]api.Op, 4000)...),
		of(slices.Repeat([]api.Op{keyed("k", "v")}, 100000)...),
		of(slices.Repeat([]api.Op{keyed("k", strings.Repeat("v", 4000))}, 263)...),
		of(slices.Repeat([]api.Op{keyed("k", strings.Repeat("v", 4000))}, 2000)...),
		full(t, 1<<20+1),
		full(t, 1<<20+2),
	}
	for _, o := range []api.Op{
		{Obj: id(0, "a")}, {Obj: id(1, "")}, {Obj: id(1<<53, "a")}, {Elem: id(-1, "a")}, {Elem: id(1, seventeen)},
		{Keyed: true, Key: "\xff"}, {Keyed: true, Key: strings.Repeat("k", 4001)}, {Keyed: true, Insert: true}, {Keyed: true, Elem: id(1, "a")}, {Key: "k"},
		{Action: -1}, {Action: 1001}, {Val: api.Value{Kind: 9}}, {Val: api.Value{Kind: -1}}, {Val: api.Value{N: 1}}, {Val: api.Value{Kind: api.Text, S: "\xff"}},
		keyed("k", strings.Repeat("v", 4001)), {Preds: names(17)}, {Preds: make([]api.OpId, 1)}, {Preds: []api.OpId{id(2, "a"), id(1, "a")}},
	} {
		l = append(l, of(o), of(api.Op{}, o, api.Op{}), of(append(make([]api.Op, 1999), o)...))
	}
	return l
}

func TestRight(t *testing.T) {
	for _, c := range rightOnes(t) {
		reads(t, c)
	}
	for _, c := range wrongOnes(t) {
		if body.Right(c) || plainRight(c) {
			t.Errorf("Right(%s)", brief(c))
		}
	}
}

// TestErrors holds which error is the first, where several things are wrong.
func TestErrors(t *testing.T) {
	const start = "\x00\x01a\x01\x01\x00\x00" // what stands ahead of the table
	const alone = start + "\x00"
	const zero = "\x02\x13\x02\x42\x02\x7f\x00\x7f\x00" // the columns of the zero op
	long := strings.Repeat("\x00", 1<<20)
	for _, c := range []struct {
		name, b string
		e       api.Errno
	}{
		{"no bytes", "", api.ErrShort},
		{"2^20 + 1 bytes of 0", long + "\x00", api.ErrLong},
		{"2^20 bytes of 0", long, api.ErrForm},
		{"2^20 + 1 bytes, of which the first ones are a change's", alone + "\x00" + long[:1<<20-8], api.ErrLong},
		{"2^20 bytes, of which the first ones are a change's", alone + "\x00" + long[:1<<20-9], api.ErrForm},
		{"2^20 + 1 bytes, and a number that ends too soon", strings.Repeat("\x80", 1<<20+1), api.ErrLong},
		{"a change of 2^20 + 1 bytes", plainPut(full(t, 1<<20+1)), api.ErrLong},
		{"a change of 2^20 bytes, the last one not there", plainPut(full(t, 1<<20))[:1<<20-1], api.ErrShort},
		{"a change of 2^20 - 1 bytes, and one more", plainPut(full(t, 1<<20-1)) + "x", api.ErrForm},

		{"17 Deps", "\x11", api.ErrLong},
		{"no Actor", "\x00\x00", api.ErrForm},
		{"an Actor of 17 bytes", "\x00\x11", api.ErrLong},
		{"the Seq 0", "\x00\x01a\x00\x01\x00\x00\x00\x00", api.ErrForm},
		{"a Seq above 2^53 - 1", "\x00\x01a" + string(leb.U(1<<53)) + "\x01\x00\x00\x00\x00", api.ErrLong},
		{"the Start 0", "\x00\x01a\x01\x00\x00\x00\x00\x00", api.ErrForm},
		{"a Message that isn't UTF-8", "\x00\x01a\x01\x01\x00\x01\xff\x00\x00", api.ErrForm},
		{"no table", start, api.ErrShort},
		{"a table with the Actor", start + "\x01\x01a\x00", api.ErrForm},
		{"a table with an actor of no bytes", start + "\x01\x00\x00", api.ErrLong},
		{"a table that doesn't rise", start + "\x02\x01c\x01b\x00", api.ErrForm},
		{"a table with an actor of no bytes, and 65 columns", start + "\x01\x00\x41", api.ErrLong},
		{"a table with the Actor, and no columns' number", start + "\x01\x01a", api.ErrForm},
		{"a table with the Actor, and 65 columns", start + "\x01\x01a\x41", api.ErrForm},
		{"the Seq 0, and 65 columns", "\x00\x01a\x00\x01\x00\x00\x00\x41", api.ErrForm},

		{"no columns' number", alone, api.ErrShort},
		{"a columns' number in a longer form", alone + "\x80\x00", api.ErrForm},
		{"65 columns", alone + "\x41", api.ErrLong},
		{"a column above 2^20", alone + "\x01\x81\x80\x40\x01x", api.ErrLong},
		{"a column of 2^20 + 1 bytes", alone + "\x01\x42\x81\x80\x40", api.ErrLong},
		{"a column that isn't there", alone + "\x01", api.ErrShort},
		{"a column without bytes", alone + "\x01\x42\x00", api.ErrForm},
		{"columns that don't rise", alone + "\x02\x42\x02\x13\x02\x7f\x00\x7f\x00", api.ErrForm},
		{"a column that is none, and a byte too few", alone + "\x01\x42\x02\x7f", api.ErrShort},
		{"65 columns, and one in the table of whom nobody speaks", start + "\x01\x01b\x41", api.ErrLong},
		{"no columns' number, and one in the table of whom nobody speaks", start + "\x01\x01b", api.ErrShort},
		{"a byte too few, and one in the table of whom nobody speaks", start + "\x01\x01b" + zero[:len(zero)-1], api.ErrShort},
		{"a byte too many", alone + "\x00\x00", api.ErrForm},
		{"a byte too many behind an op", alone + zero + "\x00", api.ErrForm},

		{"a column of another number", alone + "\x01\x00\x01x", api.ErrForm},
		{"a column of another number, beside an op's", alone + "\x03\x13\x02\x42\x02\x43\x01\x7f\x00\x7f\x00x", api.ErrForm},
		{"actions without keys", alone + "\x01\x42\x02\x7f\x00", api.ErrForm},
		{"keys without actions", alone + "\x01\x13\x02\x7f\x00", api.ErrForm},
		{"a column whose cells end too soon", alone + "\x02\x13\x02\x42\x01\x7f\x00\x7f", api.ErrForm},
		{"a column whose number is above 64 bits", alone + "\x01\x42\x0a" + strings.Repeat("\x80", 9) + "\x01", api.ErrForm},
		{"2001 ops", alone + "\x02\x13\x03\x42\x03\xd1\x0f\x00\xd1\x0f\x00", api.ErrForm},
		{"an action of 1001", alone + "\x02\x13\x02\x42\x03\x7f\x00\x7f\xe9\x07", api.ErrForm},
		{"an element of one who isn't in the table", alone + "\x03\x11\x02\x13\x02\x42\x02\x7f\x01\x7f\x01\x7f\x00", api.ErrForm},
		{"an element of one behind the table", start + "\x01\x01b\x03\x11\x02\x13\x02\x42\x02\x7f\x02\x7f\x01\x7f\x00", api.ErrForm},

		{"one in the table of whom nobody speaks, and no ops", start + "\x01\x01b\x00", api.ErrForm},
		{"one in the table of whom nobody speaks, and an op", start + "\x01\x01b" + zero, api.ErrForm},
		{"one in the table of whom nobody speaks, and an op that speaks of the Actor", start + "\x01\x01b\x03\x11\x02\x13\x02\x42\x02\x7f\x00\x7f\x01\x7f\x00", api.ErrForm},
		{"the first of two in the table, of whom nobody speaks", start + "\x02\x01b\x01c\x03\x11\x02\x13\x02\x42\x02\x7f\x02\x7f\x01\x7f\x00", api.ErrForm},
		{"the second of two in the table, of whom nobody speaks", start + "\x02\x01b\x01c\x03\x11\x02\x13\x02\x42\x02\x7f\x01\x7f\x01\x7f\x00", api.ErrForm},
	} {
		gets(t, c.b, api.Change{}, c.e)
		if e := agrees(t, c.b); e != c.e {
			t.Errorf("%s: the chapter's words have %d", c.name, e)
		}
	}
}

// TestNeighbours holds what is nearly refused.
func TestNeighbours(t *testing.T) {
	const start = "\x00\x01a\x01\x01\x00\x00"
	for _, b := range []string{
		start + "\x00\x02\x13\x02\x42\x02\x7f\x00\x7f\x00",
		start + "\x00\x02\x13\x03\x42\x03\xd0\x0f\x00\xd0\x0f\x00", // 2000 ops
		start + "\x00\x02\x13\x02\x42\x03\x7f\x00\x7f\xe8\x07",     // an action of 1000
		start + "\x00\x03\x11\x02\x13\x02\x42\x02\x7f\x00\x7f\x01\x7f\x00",
		start + "\x01\x01b\x03\x11\x02\x13\x02\x42\x02\x7f\x01\x7f\x01\x7f\x00",
		start + "\x02\x01b\x01c\x05\x01\x02\x02\x02\x11\x02\x13\x02\x42\x02\x7f\x01\x7f\x01\x7f\x02\x7f\x01\x7f\x00",
		plainPut(full(t, 1<<20)),
	} {
		if e := agrees(t, b); e != api.OK {
			t.Errorf("Get(%s): %d", brief(b), e)
		}
	}
}

// TestHashes holds hashes worked out elsewhere: of any bytes, a change's or not.
func TestHashes(t *testing.T) {
	for _, c := range []struct{ b, h string }{
		{"", "47dc540c94ceb704a23875c11273e16bb0b8a87aed84de911f2133568115f254"},
		{"\x00\x01a\x01\x01\x00\x00\x00\x00", fmt.Sprintf("%x", sha256.Sum256([]byte("\x01\x09\x00\x01a\x01\x01\x00\x00\x00\x00")))},
		{strings.Repeat("x", 127), fmt.Sprintf("%x", sha256.Sum256([]byte("\x01\x7f"+strings.Repeat("x", 127))))},
		{strings.Repeat("x", 128), fmt.Sprintf("%x", sha256.Sum256([]byte("\x01\x80\x01"+strings.Repeat("x", 128))))},
		{strings.Repeat("x", 1<<20), fmt.Sprintf("%x", sha256.Sum256([]byte("\x01\x80\x80\x40"+strings.Repeat("x", 1<<20))))},
		{strings.Repeat("x", 1<<21), fmt.Sprintf("%x", sha256.Sum256([]byte("\x01\x80\x80\x80\x01"+strings.Repeat("x", 1<<21))))},
	} {
		if h := body.HashOf([]byte(c.b)); fmt.Sprintf("%x", h) != c.h {
			t.Errorf("HashOf(%s) = %x; want %s", brief(c.b), h, c.h)
		}
	}
	if body.Hash(of()) != body.HashOf([]byte("\x00\x01a\x01\x01\x00\x00\x00\x00")) {
		t.Error("the example's hash is another one")
	}
}

// rich answers a change of which all is told.
func rich() api.Change {
	l := []api.Op{
		{Obj: id(1, "me"), Elem: id(2, "you"), Insert: true, Action: 3, Val: api.Value{Kind: api.Text, S: "text"}, Preds: []api.OpId{id(4, "b"), id(5, "c")}},
		{Obj: id(1, "you"), Keyed: true, Key: "key", Action: 4, Val: api.Value{Kind: api.Int, N: -1}, Preds: []api.OpId{id(4, "b"), id(6, "me")}},
		{Val: api.Value{Kind: api.Uint, U: 7}},
	}
	return api.Change{Actor: "me", Seq: 2, Start: 3, Time: -4, Message: "a message", Deps: hashes(3), Ops: l}
}

// others answers changes like the rich one, each of which is another one in one thing.
func others() []api.Change {
	var l []api.Change
	for _, f := range []func(c *api.Change){
		func(c *api.Change) { c.Actor = "you" },
		func(c *api.Change) { c.Actor = "" },
		func(c *api.Change) { c.Seq++ },
		func(c *api.Change) { c.Start++ },
		func(c *api.Change) { c.Time = 4 },
		func(c *api.Change) { c.Message = "" },
		func(c *api.Change) { c.Message += "x" },
		func(c *api.Change) { c.Seq, c.Start = c.Start, c.Seq },
		func(c *api.Change) { c.Deps = nil },
		func(c *api.Change) { c.Deps = c.Deps[:2] },
		func(c *api.Change) { c.Deps = append(c.Deps, api.Hash{9}) },
		func(c *api.Change) { c.Deps[0][0] = 1 },
		func(c *api.Change) { c.Deps[2][31] = 99 },
		func(c *api.Change) { slices.Reverse(c.Deps) },
		func(c *api.Change) { c.Ops = nil },
		func(c *api.Change) { c.Ops = c.Ops[:2] },
		func(c *api.Change) { c.Ops = c.Ops[1:] },
		func(c *api.Change) { c.Ops = append(c.Ops, api.Op{}) },
		func(c *api.Change) { slices.Reverse(c.Ops) },
		func(c *api.Change) { c.Ops[0].Obj.Ctr++ },
		func(c *api.Change) { c.Ops[0].Obj.Actor = "you" },
		func(c *api.Change) { c.Ops[0].Elem = api.OpId{} },
		func(c *api.Change) { c.Ops[0].Insert = false },
		func(c *api.Change) { c.Ops[0].Action++ },
		func(c *api.Change) { c.Ops[0].Val.Kind = api.Bytes },
		func(c *api.Change) { c.Ops[0].Val.S = "Text" },
		func(c *api.Change) { c.Ops[0].Preds = nil },
		func(c *api.Change) { c.Ops[0].Preds = c.Ops[0].Preds[:1] },
		func(c *api.Change) { c.Ops[0].Preds[1].Actor = "d" },
		func(c *api.Change) { c.Ops[1].Key = "" },
		func(c *api.Change) { c.Ops[1].Keyed, c.Ops[1].Key = false, "" },
		func(c *api.Change) { c.Ops[1].Val.N = -2 },
		func(c *api.Change) { c.Ops[2].Val.U++ },
		func(c *api.Change) { c.Ops[2].Val = api.Value{} },
	} {
		c := rich()
		f(&c)
		l = append(l, c)
	}
	return append(l, rich(), of(), api.Change{})
}

// TestSame holds each of many changes against each.
func TestSame(t *testing.T) {
	l, again := others(), others()
	for i, a := range l {
		for j, b := range again {
			if body.Same(a, b) != (i == j) {
				t.Errorf("Same(%s, %s) = %t", brief(a), brief(b), i != j)
			}
		}
	}
	empty := of([]api.Op{}...)
	empty.Deps = []api.Hash{}
	bare := of()
	if !body.Same(empty, bare) || !body.Same(bare, empty) || !body.Same(of(api.Op{Preds: []api.OpId{}}), of(api.Op{})) {
		t.Error("a list without elements is nil, or isn't")
	}
}

// TestNoTwoChanges holds that unlike changes have unlike bytes, and hashes.
func TestNoTwoChanges(t *testing.T) {
	rnd := rand.New(rand.NewPCG(21, 4))
	l := others()
	for range 5000 {
		l = append(l, drawn(rnd))
	}
	byBytes := map[string]api.Change{}
	hashed := map[api.Hash]string{}
	for _, c := range l {
		if !body.Right(c) {
			continue
		}
		b, h := string(body.Put(c)), body.Hash(c)
		if x, met := byBytes[b]; met && !body.Same(x, c) {
			t.Errorf("%s, %s: the same bytes", brief(x), brief(c))
		}
		if x, met := hashed[h]; met && x != b {
			t.Errorf("%s, %s: the same hash", brief(x), brief(b))
		}
		byBytes[b], hashed[h] = c, b
	}
	if len(byBytes) < 3000 {
		t.Errorf("%d changes are too few", len(byBytes))
	}
}

// drawnOps answers ops that may be, which speak of some actors.
func drawnOps(rnd *rand.Rand, table ...string) []api.Op {
	name := func() api.OpId { return id(1+rnd.Int64N(1<<rnd.IntN(10)), table[rnd.IntN(len(table))]) }
	vals := []api.Value{{}, {}, {Kind: api.False}, {Kind: api.True}, {Kind: api.Uint, U: rnd.Uint64()}, {Kind: api.Int, N: int64(rnd.Uint64())},
		{Kind: api.Text, S: "\xc3\xa9"}, {Kind: api.Bytes, S: "\xff\x00"}, {Kind: api.Counter}, {Kind: api.Time, N: -1}, {Kind: api.Text}}
	var l []api.Op
	for range rnd.IntN(4) * rnd.IntN(3) {
		o := api.Op{Action: rnd.Int64N(3) * rnd.Int64N(501), Val: vals[rnd.IntN(len(vals))]}
		if rnd.IntN(2) == 0 {
			o.Obj = name()
		}
		switch rnd.IntN(3) {
		case 0:
			o.Keyed, o.Key = true, []string{"", "k", "\xc3\xb6", "long key"}[rnd.IntN(4)]
		case 1:
			o.Elem, o.Insert = name(), rnd.IntN(2) == 0
		default:
			o.Insert = rnd.IntN(2) == 0
		}
		for range rnd.IntN(2) * rnd.IntN(4) {
			o.Preds = append(o.Preds, name())
		}
		slices.SortFunc(o.Preds, op.Compare)
		o.Preds = slices.Compact(o.Preds)
		l = append(l, slices.Repeat([]api.Op{o}, 1+rnd.IntN(4)*rnd.IntN(2))...)
	}
	return l
}

// drawn answers a change that may be.
func drawn(rnd *rand.Rand) api.Change {
	table := []string{"a", "b", "aa", "\x00", "\xff", sixteen, "m"}
	rnd.Shuffle(len(table), func(i, j int) { table[i], table[j] = table[j], table[i] })
	table = table[:1+rnd.IntN(len(table))]
	c := api.Change{
		Actor:   table[rnd.IntN(len(table))],
		Seq:     1 + rnd.Int64N(1<<rnd.IntN(53)),
		Start:   1 + rnd.Int64N(1<<rnd.IntN(53)),
		Time:    int64(rnd.Uint64()) >> rnd.IntN(64),
		Message: strings.Repeat("\xc3\xa9", rnd.IntN(2)*rnd.IntN(5)),
		Ops:     drawnOps(rnd, table...),
	}
	for _, h := range hashes(256) {
		if rnd.IntN(256) == 0 && len(c.Deps) < 16 {
			c.Deps = append(c.Deps, h)
		}
	}
	return c
}

func TestWhatIsPutIsRead(t *testing.T) {
	rnd := rand.New(rand.NewPCG(21, 1))
	for i := range 5000 {
		c := drawn(rnd)
		reads(t, c)
		if i%10 == 0 {
			cut(t, c)
		}
		if t.Failed() {
			return
		}
	}
}

// TestAllShortBytes holds all rows of some bytes behind some beginnings.
func TestAllShortBytes(t *testing.T) {
	met := map[api.Errno]int{}
	for _, x := range []struct {
		ahead, letters string
		most           int
	}{
		{"", "\x00\x01\x02\x80a", 6},
		{"\x00\x01a\x01\x01\x00\x00", "\x00\x01\x02\x13\x42\x7fb", 5},
		{"\x00\x01a\x01\x01\x00\x00\x01\x01b\x03\x11\x02\x13\x02\x42\x02", "\x00\x01\x02\x7e\x7f", 6},
		{"\x00\x01a\x01\x01\x00\x00\x00\x02\x13\x02\x42\x02", "\x00\x01\x02\x03\x7f\x80", 5},
	} {
		rows := []string{x.ahead}
		for range x.most + 1 {
			var longer []string
			for _, b := range rows {
				met[agrees(t, b)]++
				for i := range x.letters {
					longer = append(longer, b+x.letters[i:i+1])
				}
			}
			if t.Failed() {
				return
			}
			rows = longer
		}
	}
	if met[api.OK] < 5 || met[api.ErrShort] < 100 || met[api.ErrForm] < 100 || met[api.ErrLong] < 1 {
		t.Errorf("met: %v", met)
	}
}

// wrong answers bytes, of which, now and then, some are others, too many, or too few.
func wrong(rnd *rand.Rand, s string) string {
	b := []byte(s)
	letters := []byte{0, 1, 2, 3, 16, 17, 19, 66, 126, 127, 128, 129, 255, 'a', 'b'}
	for range rnd.IntN(3) {
		at := rnd.IntN(len(b) + 1)
		switch x := letters[rnd.IntN(len(letters))]; {
		case rnd.IntN(4) == 0 || at == len(b):
			b = slices.Insert(b, at, x)
		case rnd.IntN(3) == 0:
			b = slices.Delete(b, at, at+1)
		default:
			b[at] = x
		}
	}
	if rnd.IntN(20) == 0 {
		b = b[:rnd.IntN(len(b)+1)]
	}
	return string(b)
}

// TestOneFormAlone hands in bytes of all sorts: what is read is put as just these, and all else is refused as the chapter has it.
func TestOneFormAlone(t *testing.T) {
	rnd := rand.New(rand.NewPCG(21, 2))
	met := map[api.Errno]int{}
	for range 60000 {
		met[agrees(t, wrong(rnd, plainPut(drawn(rnd))))]++
		if t.Failed() {
			return
		}
	}
	for _, e := range []api.Errno{api.OK, api.ErrShort, api.ErrForm, api.ErrLong} {
		if met[e] < 100 {
			t.Errorf("the error %d was met %d times", e, met[e])
		}
	}
}

// TestTableAlone holds that no bytes are read of whose table somebody is that no op speaks of, all else being right.
func TestTableAlone(t *testing.T) {
	rnd := rand.New(rand.NewPCG(21, 3))
	for range 5000 {
		c := drawn(rnd)
		table := plainTable(c)
		others := slices.Sorted(slices.Values(append(slices.Clone(table[1:]), "new")))
		wide := slices.Concat([]string{c.Actor}, others)
		var speaks api.Op
		for i, a := range others {
			speaks.Preds = append(speaks.Preds, id(int64(i)+1, a))
		}
		with := c
		with.Ops = []api.Op{speaks}
		columns := cols.Put(wide, c.Ops...)
		if got, e := cols.Get(wide, columns); e != api.OK || len(got) != len(c.Ops) {
			t.Fatalf("the columns of %s are none", brief(c))
		}
		gets(t, string(head.Put(with))+string(dir.Put(columns...)), api.Change{}, api.ErrForm)
	}
}

// fill fills bytes, spare room included.
func fill(b []byte, x byte) {
	for i := range b[:cap(b)] {
		b[:cap(b)][i] = x
	}
}

// spoil changes all that changes share with others, spare room included.
func spoil(l []api.Change) {
	for _, c := range l {
		for i := range c.Deps[:cap(c.Deps)] {
			c.Deps[:cap(c.Deps)][i] = api.Hash{99}
		}
		for _, o := range c.Ops {
			for i := range o.Preds[:cap(o.Preds)] {
				o.Preds[:cap(o.Preds)][i] = id(99, "spoilt")
			}
		}
		for i := range c.Ops[:cap(c.Ops)] {
			c.Ops[:cap(c.Ops)][i] = api.Op{Action: 99}
		}
	}
	for i := range l[:cap(l)] {
		l[:cap(l)][i] = api.Change{Actor: "spoilt"}
	}
}

// roomy answers a change like this one, with spare room in all its lists that isn't empty.
func roomy(c api.Change) api.Change {
	c.Deps = append(slices.Clone(c.Deps), api.Hash{98})[:len(c.Deps)]
	ops := slices.Clone(c.Ops)
	for i, o := range ops {
		ops[i].Preds = append(slices.Clone(o.Preds), id(98, "room"))[:len(o.Preds)]
	}
	c.Ops = append(ops, api.Op{Action: 98})[:len(ops)]
	return c
}

// untouched tells whether a change that was made roomy is as it was.
func untouched(c, was api.Change) bool {
	for _, o := range c.Ops {
		if n := len(o.Preds); o.Preds[:n+1][n] != id(98, "room") {
			return false
		}
	}
	deps, ops := len(c.Deps), len(c.Ops)
	return plainSame(c, was) && c.Deps[:deps+1][deps] == api.Hash{98} && c.Ops[:ops+1][ops].Action == 98
}

// TestMemory holds that no call changes or keeps what is handed in, spare room included, and that answers share no memory.
func TestMemory(t *testing.T) {
	for i, c := range others() {
		given, want := roomy(c), plainPut(c)
		b := body.Put(given)
		fill(body.Put(given), 99)
		may, h := body.Right(given), body.Hash(given)
		if !body.Same(given, given) || h != plainHash(want) || may != plainRight(c) {
			t.Errorf("%d: Same, Hash or Right is another one", i)
		}
		if !untouched(given, c) {
			t.Errorf("%d: what was handed in was changed", i)
		}
		spoil([]api.Change{given})
		if string(b) != want {
			t.Errorf("%d: the answer became %s", i, brief(b))
		}
		room := []byte(want + "room")
		body.HashOf(room[:len(want)])
		if string(room) != want+"room" {
			t.Errorf("%d: HashOf changed what was handed in", i)
		}
	}
}

// TestMemoryOfGet holds that bytes aren't changed or kept, spare room included, and that answers share no memory.
func TestMemoryOfGet(t *testing.T) {
	for i, want := range others() {
		if !plainRight(want) {
			continue
		}
		b := plainPut(want)
		room := []byte(b + "room")
		c, e := body.Get(room[:len(b)])
		other, _ := body.Get(room[:len(b)])
		if string(room) != b+"room" || e != api.OK {
			t.Errorf("%d: what was handed in was changed, or %d", i, e)
		}
		fill(room, 99)
		apart(t, other, want)
		spoil([]api.Change{other})
		if !plainSame(c, want) {
			t.Errorf("%d: the answer became %s", i, brief(c))
		}
	}
}

// apart tells a test that two lists of a change share memory; its preds are lost.
func apart(t *testing.T, c, want api.Change) {
	t.Helper()
	for i, o := range c.Ops {
		for j := range o.Preds[:cap(o.Preds)] {
			o.Preds[:cap(o.Preds)][j] = id(99, "spoilt")
		}
		if !slices.EqualFunc(c.Ops[i+1:], want.Ops[i+1:], op.Same) {
			t.Fatalf("the preds of the op %d share memory with another one's", i)
		}
	}
}

func TestCopy(t *testing.T) {
	if l := body.Copy(); len(l) != 0 {
		t.Errorf("Copy of none: %s", brief(l))
	}
	want := append(others(), rich(), rich())
	given := append(others(), rich(), rich(), api.Change{Actor: "room"})
	for i, c := range given {
		given[i] = roomy(c)
	}
	n := len(want)
	got, other := body.Copy(given[:n]...), body.Copy(given[:n]...)
	for i, c := range given[:n] {
		if !untouched(c, want[i]) {
			t.Errorf("Copy changed %s", brief(want[i]))
		}
	}
	if given[n].Actor != "room" {
		t.Error("Copy changed spare room")
	}
	for i, c := range other {
		apart(t, c, want[i])
		spoil(other[i : i+1 : i+1])
		if !slices.EqualFunc(other[i+1:], want[i+1:], plainSame) {
			t.Fatalf("the copy %d shares memory with a later one", i)
		}
	}
	spoil(other)
	spoil(given[:n])
	if !slices.EqualFunc(got, want, plainSame) {
		t.Errorf("copies became %s", brief(got))
	}
	for i := len(got) - 1; i > 0; i-- {
		spoil(got[i : i+1 : i+1])
		if !slices.EqualFunc(got[:i], want[:i], plainSame) {
			t.Fatalf("the copy %d shares memory with one ahead of it", i)
		}
	}
}

// textsOf answers all texts of a change.
func textsOf(c api.Change) []string {
	l := []string{c.Actor, c.Message}
	for _, o := range c.Ops {
		l = append(l, o.Key, o.Val.S)
		for _, x := range append([]api.OpId{o.Obj, o.Elem}, o.Preds...) {
			l = append(l, x.Actor)
		}
	}
	return l
}

// TestTextsAreNew holds that the texts of an answer are pieces neither of what was handed in nor of one another.
func TestTextsAreNew(t *testing.T) {
	given := rich()
	b := []byte(plainPut(given))
	read, e := body.Get(b)
	if e != api.OK {
		t.Fatal(e)
	}
	from := uintptr(unsafe.Pointer(&b[0]))
	met := map[uintptr]bool{}
	for _, s := range textsOf(given) {
		met[uintptr(unsafe.Pointer(unsafe.StringData(s)))] = true
	}
	for _, c := range append(body.Copy(given, given), read) {
		for _, s := range textsOf(c) {
			at := uintptr(unsafe.Pointer(unsafe.StringData(s)))
			if s != "" && (met[at] || at >= from && at < from+uintptr(len(b))) {
				t.Errorf("%q is a piece of something else", s)
			}
			met[at] = true
		}
	}
}

// TestEndsAtAnything hands in what may not be: the calls end, change nothing, and no bytes are read as such a change.
func TestEndsAtAnything(t *testing.T) {
	least := id(math.MinInt64, strings.Repeat("x", 1<<16))
	for _, c := range append(wrongOnes(t),
		with(func(c *api.Change) { c.Deps = slices.Repeat(hashes(1), 100000) }),
		with(func(c *api.Change) { c.Message, c.Actor = strings.Repeat("\xff", 1<<20), strings.Repeat("\xff", 1<<21) }),
		of(api.Op{Obj: least, Elem: least, Preds: []api.OpId{least, {}, least}}),
		of(api.Op{Preds: slices.Repeat(names(3), 50000)}),
		of(keyed(strings.Repeat("k", 1<<21), strings.Repeat("v", 1<<21))),
		of(make([]api.Op, 300000)...),
	) {
		given := roomy(c)
		if body.Right(given) {
			t.Errorf("Right(%s)", brief(c))
		}
		b := body.Put(given)
		h := body.Hash(given)
		if !body.Same(body.Copy(given)[0], c) || h != body.HashOf(b) || !untouched(given, c) {
			t.Errorf("%s was changed, or has two hashes", brief(c))
		}
		agrees(t, string(b))
		if got, e := body.Get(b); e == api.OK && body.Same(got, c) {
			t.Errorf("%s is read", brief(c))
		}
	}
}

// TestEndsAtManyActors holds that a change whose ops speak of as many as there is room for is told and read in a moment.
func TestEndsAtManyActors(t *testing.T) {
	met := 0
	name := func(ctr int64) api.OpId {
		met++
		return id(ctr, fmt.Sprintf("%x", met+1<<20))
	}
	c := of()
	for i := range int64(2000) {
		o := api.Op{Obj: name(i + 1), Elem: name(2*i + 1), Insert: i%2 == 0, Action: i % 1001}
		for j := range int64(16) {
			o.Preds = append(o.Preds, name(j*1000+1))
		}
		c.Ops = append(c.Ops, o)
	}
	reads(t, c)
}

// TestEndsAtFewBytesOfMuch holds that a text that is told once, but stands in 2000 ops, is refused in a moment, if it is too long.
func TestEndsAtFewBytesOfMuch(t *testing.T) {
	for _, size := range []int{4001, 1 << 19, 1<<20 - 40} {
		c := of(slices.Repeat([]api.Op{{Keyed: true, Key: strings.Repeat("k", size)}}, 2000)...)
		b := plainPut(c)
		if len(b) > 1<<20 || body.Right(c) {
			t.Errorf("%d: %d bytes, or the change may be", size, len(b))
		}
		gets(t, b, api.Change{}, api.ErrForm)
	}
}
