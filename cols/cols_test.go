package cols_test

import (
	"bytes"
	"fmt"
	"math"
	"math/rand/v2"
	"reflect"
	"slices"
	"strings"
	"testing"
	"unicode/utf8"
	"unsafe"

	"inkwell/api"
	"inkwell/bools"
	"inkwell/cols"
	"inkwell/delta"
	"inkwell/dir"
	"inkwell/leb"
	"inkwell/op"
	"inkwell/raw"
	"inkwell/rle"
)

// brief answers what is told of anything, but its middle, if it is long.
func brief(x any) string {
	s := fmt.Sprintf("%+q", x)
	if len(s) <= 400 {
		return s
	}
	return s[:200] + " .. " + s[len(s)-200:]
}

func id(ctr int64, actor string) api.OpId {
	return api.OpId{Ctr: ctr, Actor: actor}
}

const (
	sixteen   = "0123456789abcdef"
	seventeen = sixteen + "g"
)

// plainCell answers the cell of a number.
func plainCell(n int) api.Cell {
	return api.Cell{Is: true, N: int64(n)}
}

// plainActor answers the cell of whose a name is.
func plainActor(table []string, x api.OpId) api.Cell {
	if x == id(0, "") {
		return api.Cell{}
	}
	for i, a := range table {
		if a == x.Actor {
			return plainCell(i)
		}
	}
	panic("nobody in the table")
}

// plainCtr answers the cell of a name's number.
func plainCtr(x api.OpId) api.Cell {
	if x == id(0, "") {
		return api.Cell{}
	}
	return plainCell(int(x.Ctr))
}

// each answers a column: of each op a cell.
func each[C any](l []api.Op, cell func(api.Op) C) []C {
	var column []C
	for _, o := range l {
		column = append(column, cell(o))
	}
	return column
}

// plainPut answers by the chapter's words the columns of ops, one by one.
func plainPut(table []string, l []api.Op) []dir.Col {
	var all []dir.Col
	add := func(id int, b []byte) {
		if len(b) > 0 {
			all = append(all, dir.Col{Id: id, Data: b})
		}
	}
	add(1, rle.Put(each(l, func(o api.Op) api.Cell { return plainActor(table, o.Obj) })...))
	add(2, rle.Put(each(l, func(o api.Op) api.Cell { return plainCtr(o.Obj) })...))
	add(17, rle.Put(each(l, func(o api.Op) api.Cell { return plainActor(table, o.Elem) })...))
	add(19, delta.Put(each(l, func(o api.Op) api.Cell {
		if !o.Keyed && o.Elem == id(0, "") {
			return plainCell(0)
		}
		return plainCtr(o.Elem)
	})...))
	add(21, rle.PutW(each(l, func(o api.Op) api.Word {
		if o.Keyed {
			return api.Word{Is: true, S: o.Key}
		}
		return api.Word{}
	})...))
	add(52, bools.Put(each(l, func(o api.Op) bool { return o.Insert })...))
	add(66, rle.Put(each(l, func(o api.Op) api.Cell { return plainCell(int(o.Action)) })...))
	metas, vals := raw.Put(each(l, func(o api.Op) api.Value { return o.Val })...)
	add(86, metas)
	add(87, vals)
	add(112, rle.Put(each(l, func(o api.Op) api.Cell {
		if len(o.Preds) == 0 {
			return api.Cell{}
		}
		return plainCell(len(o.Preds))
	})...))
	var whose, ctrs []api.Cell
	for _, o := range l {
		for _, x := range o.Preds {
			whose, ctrs = append(whose, plainActor(table, x)), append(ctrs, plainCtr(x))
		}
	}
	add(113, rle.Put(whose...))
	add(115, delta.Put(ctrs...))
	return all
}

// plainColumn answers a column of n cells, and whether there is one.
func plainColumn[C any](columns []dir.Col, id, n int, get func([]byte, int) ([]C, api.Errno)) ([]C, bool) {
	for _, c := range columns {
		if c.Id == id {
			l, e := get(c.Data, n)
			return l, e == api.OK && len(l) == n
		}
	}
	return make([]C, n), true
}

// plainName answers the name of two cells, neither of which is nothing, and whether there is one.
func plainName(table []string, whose, ctr api.Cell) (api.OpId, bool) {
	if !whose.Is || !ctr.Is || whose.N >= int64(len(table)) || ctr.N < 1 || ctr.N > 1<<53-1 {
		return api.OpId{}, false
	}
	a := table[whose.N]
	return id(ctr.N, a), len(a) >= 1 && len(a) <= 16
}

// plainGet answers by the chapter's words the ops whose columns these are, cell by cell, and whether there are such.
func plainGet(table []string, columns []dir.Col) ([]api.Op, bool) {
	known := []int{1, 2, 17, 19, 21, 52, 66, 86, 87, 112, 113, 115}
	last := -1
	var actions []api.Cell
	metas, vals := []byte(nil), []byte(nil)
	for _, c := range columns {
		if c.Id <= last || len(c.Data) == 0 || !slices.Contains(known, c.Id) {
			return nil, false
		}
		last = c.Id
		switch c.Id {
		case 66:
			var e api.Errno
			if actions, e = rle.Get(c.Data, 2000); e != api.OK {
				return nil, false
			}
		case 86:
			metas = c.Data
		case 87:
			vals = c.Data
		}
	}
	n := len(actions)
	objActors, ok1 := plainColumn(columns, 1, n, rle.Get)
	objCtrs, ok2 := plainColumn(columns, 2, n, rle.Get)
	elemActors, ok3 := plainColumn(columns, 17, n, rle.Get)
	elemCtrs, ok4 := plainColumn(columns, 19, n, delta.Get)
	texts, ok5 := plainColumn(columns, 21, n, rle.GetW)
	inserts, ok6 := plainColumn(columns, 52, n, bools.Get)
	values, e := raw.Get(metas, vals, n)
	counts, ok7 := plainColumn(columns, 112, n, rle.Get)
	if !ok1 || !ok2 || !ok3 || !ok4 || !ok5 || !ok6 || !ok7 || e != api.OK {
		return nil, false
	}
	all := 0
	for _, c := range counts {
		if c.Is && (c.N < 1 || c.N > 16) {
			return nil, false
		}
		all += int(c.N)
	}
	predActors, ok8 := plainColumn(columns, 113, all, rle.Get)
	predCtrs, ok9 := plainColumn(columns, 115, all, delta.Get)
	if !ok8 || !ok9 {
		return nil, false
	}
	var l []api.Op
	for i := range n {
		o := api.Op{Keyed: texts[i].Is, Key: texts[i].S, Insert: inserts[i], Action: actions[i].N, Val: values[i]}
		if !actions[i].Is || o.Action > 1000 {
			return nil, false
		}
		if objActors[i].Is || objCtrs[i].Is {
			x, ok := plainName(table, objActors[i], objCtrs[i])
			if !ok {
				return nil, false
			}
			o.Obj = x
		}
		switch {
		case o.Keyed:
			if elemActors[i].Is || elemCtrs[i].Is || o.Insert || len(o.Key) > 4000 || !utf8.ValidString(o.Key) {
				return nil, false
			}
		case !elemActors[i].Is:
			if elemCtrs[i] != plainCell(0) {
				return nil, false
			}
		default:
			x, ok := plainName(table, elemActors[i], elemCtrs[i])
			if !ok {
				return nil, false
			}
			o.Elem = x
		}
		for range counts[i].N {
			x, ok := plainName(table, predActors[0], predCtrs[0])
			if !ok || len(o.Preds) > 0 && op.Compare(o.Preds[len(o.Preds)-1], x) >= 0 {
				return nil, false
			}
			o.Preds = append(o.Preds, x)
			predActors, predCtrs = predActors[1:], predCtrs[1:]
		}
		l = append(l, o)
	}
	return l, true
}

// alike tells whether columns are alike.
func alike(a, b []dir.Col) bool {
	return slices.EqualFunc(a, b, func(x, y dir.Col) bool { return x.Id == y.Id && bytes.Equal(x.Data, y.Data) })
}

// text answers columns of numbers, and texts as their bytes, one behind the other.
func text(l ...any) []dir.Col {
	var all []dir.Col
	for i := 0; i < len(l); i += 2 {
		all = append(all, dir.Col{Id: l[i].(int), Data: []byte(l[i+1].(string))})
	}
	return all
}

// roomy answers columns like these, with spare room that isn't empty.
func roomy(columns []dir.Col) []dir.Col {
	var all []dir.Col
	for _, c := range columns {
		data := append(slices.Clone(c.Data), "\x01\x01\x7f"...)
		all = append(all, dir.Col{Id: c.Id, Data: data[:len(c.Data)]})
	}
	return append(all, text(116, "\x01\x01")...)[:len(columns)]
}

// gets tells a test that columns aren't read as they should be; what stands in spare room counts for nothing.
func gets(t *testing.T, table []string, columns []dir.Col, want []api.Op, e api.Errno) {
	t.Helper()
	l, x := cols.Get(table, roomy(columns))
	if x != e || !slices.EqualFunc(l, want, op.Same) {
		t.Errorf("Get(%s, %s) = %s, %d; want %s, %d", brief(table), brief(columns), brief(l), x, brief(want), e)
	}
}

// both tells a test that ops haven't such columns, or aren't read from them as they were.
func both(t *testing.T, table []string, l []api.Op, columns []dir.Col) {
	t.Helper()
	if got := cols.Put(table, l...); !alike(got, columns) {
		t.Errorf("Put(%s, %s) = %s; want %s", brief(table), brief(l), brief(got), brief(columns))
	}
	gets(t, table, columns, l, api.OK)
	if plain := plainPut(table, l); !alike(plain, columns) {
		t.Errorf("of %s, %s the chapter's words have %s", brief(table), brief(l), brief(plain))
	}
	if plain, ok := plainGet(table, columns); !ok || !slices.EqualFunc(plain, l, op.Same) {
		t.Errorf("of %s, %s the chapter's words have %s, %v", brief(table), brief(columns), brief(plain), ok)
	}
}

func TestNumbers(t *testing.T) {
	got := []int{cols.ObjActor, cols.ObjCtr, cols.KeyActor, cols.KeyCtr, cols.KeyText, cols.Insert, cols.Action, cols.ValMeta, cols.ValRaw, cols.PredNum, cols.PredActor, cols.PredCtr}
	if want := []int{1, 2, 17, 19, 21, 52, 66, 86, 87, 112, 113, 115}; !slices.Equal(got, want) {
		t.Errorf("the columns' numbers are %d; want %d", got, want)
	}
}

// TestColumns holds ops and their columns, written out, of a table of m, a, z.
func TestColumns(t *testing.T) {
	table := []string{"m", "a", "z"}
	uint7 := api.Value{Kind: api.Uint, U: 7}
	for _, c := range []struct {
		l       []api.Op
		columns []dir.Col
	}{
		{nil, nil},
		{[]api.Op{{}}, text(19, "\x7f\x00", 66, "\x7f\x00")}, // the chapter's example
		{[]api.Op{{}, {}}, text(19, "\x02\x00", 66, "\x02\x00")},
		// The object.
		{[]api.Op{{Obj: id(9, "m")}}, text(1, "\x7f\x00", 2, "\x7f\x09", 19, "\x7f\x00", 66, "\x7f\x00")},
		{[]api.Op{{Obj: id(9, "z")}, {Obj: id(8, "a")}}, text(1, "\x7e\x02\x01", 2, "\x7e\x09\x08", 19, "\x02\x00", 66, "\x02\x00")},
		{[]api.Op{{}, {Obj: id(9, "m")}, {}}, text(1, "\x00\x01\x7f\x00\x00\x01", 2, "\x00\x01\x7f\x09\x00\x01", 19, "\x03\x00", 66, "\x03\x00")},
		// The element: its Ctr is told by differences.
		{[]api.Op{{Elem: id(9, "m")}}, text(17, "\x7f\x00", 19, "\x7f\x09", 66, "\x7f\x00")},
		{[]api.Op{{Elem: id(9, "a")}, {Elem: id(8, "z")}}, text(17, "\x7e\x01\x02", 19, "\x7e\x09\x7f", 66, "\x02\x00")},
		{[]api.Op{{Elem: id(9, "a")}, {}, {Elem: id(9, "a")}}, text(17, "\x7f\x01\x00\x01\x7f\x01", 19, "\x7d\x09\x77\x09", 66, "\x03\x00")},
		{[]api.Op{{}, {Elem: id(1, "m")}, {Elem: id(2, "m")}, {Elem: id(3, "m")}}, text(17, "\x00\x01\x03\x00", 19, "\x7f\x00\x03\x01", 66, "\x04\x00")},
		// The key: the element's cells are nothing.
		{[]api.Op{{Keyed: true, Key: "k"}}, text(21, "\x7f\x01k", 66, "\x7f\x00")},
		{[]api.Op{{Keyed: true}}, text(21, "\x7f\x00", 66, "\x7f\x00")},
		{[]api.Op{{Keyed: true, Key: "k"}, {Keyed: true, Key: "k"}, {Keyed: true, Key: "ä"}}, text(21, "\x02\x01k\x7f\x02ä", 66, "\x03\x00")},
		{[]api.Op{{Keyed: true, Key: "k"}, {}}, text(19, "\x00\x01\x7f\x00", 21, "\x7f\x01k\x00\x01", 66, "\x02\x00")},
		{[]api.Op{{Elem: id(9, "m")}, {Keyed: true}, {Elem: id(9, "m")}}, text(17, "\x7f\x00\x00\x01\x7f\x00", 19, "\x7f\x09\x00\x01\x7f\x00", 21, "\x00\x01\x7f\x00\x00\x01", 66, "\x03\x00")},
		// Inserting.
		{[]api.Op{{Insert: true}}, text(19, "\x7f\x00", 52, "\x00\x01", 66, "\x7f\x00")},
		{[]api.Op{{Insert: true}, {}, {}}, text(19, "\x03\x00", 52, "\x00\x01\x02", 66, "\x03\x00")},
		{[]api.Op{{}, {Insert: true}, {Elem: id(1, "m"), Insert: true}}, text(17, "\x00\x02\x7f\x00", 19, "\x02\x00\x7f\x01", 52, "\x01\x02", 66, "\x03\x00")},
		// The action.
		{[]api.Op{{Action: 1000}}, text(19, "\x7f\x00", 66, "\x7f\xe8\x07")},
		{[]api.Op{{Action: 1}, {Action: 1}, {Action: 0}}, text(19, "\x03\x00", 66, "\x02\x01\x7f\x00")},
		// The value.
		{[]api.Op{{Val: uint7}}, text(19, "\x7f\x00", 66, "\x7f\x00", 86, "\x7f\x13", 87, "\x07")},
		{[]api.Op{{Val: api.Value{Kind: api.True}}}, text(19, "\x7f\x00", 66, "\x7f\x00", 86, "\x7f\x02")},
		{[]api.Op{{Val: api.Value{Kind: api.Text}}}, text(19, "\x7f\x00", 66, "\x7f\x00", 86, "\x7f\x05")},
		{[]api.Op{{}, {Val: api.Value{Kind: api.Bytes, S: "\xff"}}, {Val: uint7}, {}}, text(19, "\x04\x00", 66, "\x04\x00", 86, "\x00\x01\x7e\x16\x13\x00\x01", 87, "\xff\x07")},
		// The preds: of all ops, one behind the other, their Ctrs told by differences.
		{[]api.Op{{Preds: []api.OpId{id(9, "a")}}}, text(19, "\x7f\x00", 66, "\x7f\x00", 112, "\x7f\x01", 113, "\x7f\x01", 115, "\x7f\x09")},
		{[]api.Op{{}, {Preds: []api.OpId{id(9, "a"), id(9, "m"), id(10, "a")}}}, text(19, "\x02\x00", 66, "\x02\x00", 112, "\x00\x01\x7f\x03", 113, "\x7d\x01\x00\x01", 115, "\x7d\x09\x00\x01")},
		{[]api.Op{{Preds: []api.OpId{id(9, "z")}}, {}, {Preds: []api.OpId{id(3, "z"), id(4, "z")}}, {Preds: []api.OpId{id(5, "z")}}}, text(19, "\x04\x00", 66, "\x04\x00", 112, "\x7f\x01\x00\x01\x7e\x02\x01", 113, "\x04\x02", 115, "\x7e\x09\x7a\x02\x01")},
		// All at once.
		{[]api.Op{
			{Keyed: true, Key: "k", Action: 1, Val: uint7},
			{Obj: id(2, "a"), Insert: true, Action: 1},
			{Obj: id(2, "a"), Elem: id(5, "m"), Insert: true, Action: 1, Preds: []api.OpId{id(1, "m"), id(3, "a")}},
		}, text(1, "\x00\x01\x02\x01", 2, "\x00\x01\x02\x02", 17, "\x00\x02\x7f\x00", 19, "\x00\x01\x7e\x00\x05", 21, "\x7f\x01k\x00\x02", 52, "\x01\x02", 66, "\x03\x01", 86, "\x7f\x13\x00\x02", 87, "\x07", 112, "\x00\x02\x7f\x02", 113, "\x7e\x00\x01", 115, "\x7e\x01\x02")},
	} {
		both(t, table, c.l, c.columns)
	}
	both(t, []string{"m"}, []api.Op{{}}, text(19, "\x7f\x00", 66, "\x7f\x00"))
	both(t, nil, []api.Op{{}}, text(19, "\x7f\x00", 66, "\x7f\x00"))
	both(t, nil, nil, nil)
}

// preds answers so many names, rising.
func preds(n int) []api.OpId {
	var l []api.OpId
	for i := range n {
		l = append(l, id(int64(i)+1, "m"))
	}
	return l
}

// TestEdges holds ops that may just be: by their columns' words, in one change, and many times.
func TestEdges(t *testing.T) {
	table := []string{"m", "a", sixteen, "\xff", "\x00"}
	const most = 1<<53 - 1
	long := strings.Repeat("x", 4000)
	l := []api.Op{
		{Obj: id(1, "m"), Elem: id(1, "m")},
		{Obj: id(most, sixteen), Elem: id(most, sixteen)},
		{Obj: id(most, "\xff"), Elem: id(1, "\x00"), Insert: true},
		{Keyed: true, Key: long},
		{Keyed: true, Key: strings.Repeat("ä", 2000)},
		{Keyed: true, Key: "\x00"},
		{Action: 0},
		{Action: 1000},
		{Val: api.Value{Kind: api.Text, S: long}},
		{Val: api.Value{Kind: api.Bytes, S: strings.Repeat("\xff", 4000)}},
		{Val: api.Value{Kind: api.Uint, U: math.MaxUint64}},
		{Val: api.Value{Kind: api.Int, N: math.MinInt64}},
		{Val: api.Value{Kind: api.Counter, N: math.MaxInt64}},
		{Val: api.Value{Kind: api.Time, N: -1}},
		{Val: api.Value{Kind: api.False}},
		{Preds: preds(16)},
		{Preds: preds(1)},
		{Preds: []api.OpId{id(1, "\x00"), id(1, sixteen), id(1, "a"), id(1, "m"), id(1, "\xff"), id(2, "\x00"), id(most, "\x00"), id(most, "\xff")}},
	}
	if !op.Right(l...) {
		t.Fatal("ops that may not be")
	}
	both(t, table, l, plainPut(table, l))
	for _, o := range l {
		both(t, table, []api.Op{o}, plainPut(table, []api.Op{o}))
		for _, n := range []int{2, 1999, 2000} {
			many := slices.Repeat([]api.Op{o}, n)
			both(t, table, many, plainPut(table, many))
		}
	}
	// Names may be spoken of that the table has at its end, and one more is in it than is spoken of.
	for _, more := range [][]string{{"b"}, {"", seventeen}} {
		wide := append(slices.Clone(table), more...)
		both(t, wide, l, plainPut(wide, l))
	}
}

// TestMostOps holds that 2000 ops are read, and one more isn't, whatever they are.
func TestMostOps(t *testing.T) {
	table := []string{"m"}
	for _, o := range []api.Op{{}, {Keyed: true, Key: "k"}, {Elem: id(1, "m"), Insert: true, Preds: preds(16), Val: api.Value{Kind: api.Uint, U: 1}}} {
		for _, n := range []int{1999, 2000, 2001, 4000, 100000} {
			l := slices.Repeat([]api.Op{o}, n)
			want, e := l, api.OK
			if n > 2000 {
				want, e = nil, api.ErrForm
			}
			gets(t, table, plainPut(table, l), want, e)
		}
	}
	// A few bytes may tell more than any memory holds.
	huge := string(leb.S(math.MaxInt64)) + "\x00"
	for _, c := range [][]dir.Col{
		text(66, huge), text(19, huge, 66, huge), text(66, "\x00"+string(leb.U(math.MaxUint64))+"\x01\x01"),
		text(19, "\x7f\x00", 66, "\x7f\x00", 112, "\x7f"+string(leb.U(math.MaxInt64)), 113, huge, 115, huge),
		text(19, "\x03\x00", 66, "\x03\x00", 112, "\x03"+string(leb.U(math.MaxInt64)), 113, huge, 115, huge),
		text(19, "\x04\x00", 66, "\x04\x00", 112, "\x04"+string(leb.U(1<<62)), 113, huge, 115, huge),
		text(19, "\x02\x00", 52, string(leb.U(math.MaxInt64))+"\x01", 66, "\x02\x00"),
		text(21, "\xd0\x0f"+string(leb.U(1<<20))+strings.Repeat("k", 1<<20), 66, "\xd0\x0f\x00"),
	} {
		gets(t, table, c, nil, api.ErrForm)
	}
}

// change answers columns like these, but that one has other bytes; it isn't there, if it has none.
func change(columns []dir.Col, id int, data string) []dir.Col {
	var all []dir.Col
	for _, c := range columns {
		if c.Id != id {
			all = append(all, c)
		}
	}
	if data != "" {
		all = append(all, dir.Col{Id: id, Data: []byte(data)})
	}
	slices.SortFunc(all, func(a, b dir.Col) int { return a.Id - b.Id })
	return all
}

// three answers three ops, all of whose columns have bytes, and their table.
func three() ([]string, []api.Op) {
	return []string{"m", "a"}, []api.Op{
		{Keyed: true, Key: "k", Action: 1, Val: api.Value{Kind: api.Uint, U: 7}},
		{Obj: id(2, "a"), Insert: true, Action: 1},
		{Obj: id(2, "a"), Elem: id(5, "m"), Insert: true, Action: 1, Preds: []api.OpId{id(1, "m"), id(3, "a")}},
	}
}

// refused tells a test that columns are read that are none.
func refused(t *testing.T, name string, table []string, columns []dir.Col) {
	t.Helper()
	if l, e := cols.Get(table, roomy(columns)); e != api.ErrForm || len(l) != 0 {
		t.Errorf("%s: Get(%s, %s) = %s, %d", name, brief(table), brief(columns), brief(l), e)
	}
	if _, ok := plainGet(table, columns); ok {
		t.Errorf("%s: the chapter's words have %s as columns", name, brief(columns))
	}
}

// TestWrongCells changes one column of three ops: 0 is Keyed, 1 has neither an element nor a key, 2 has an element.
func TestWrongCells(t *testing.T) {
	table, l := three()
	right := plainPut(table, l)
	both(t, table, l, right)
	for _, c := range []struct {
		name string
		id   int
		data string
	}{
		{"an object of nobody", 1, "\x00\x02\x7f\x01"},
		{"an object of somebody, without a Ctr", 1, "\x7e\x00\x01\x7f\x01"},
		{"an object whose place isn't in the table", 1, "\x00\x01\x02\x02"},
		{"an object whose place is far from the table", 1, "\x00\x01\x02" + string(leb.U(1<<32))},
		{"an object whose place is as far as may be", 1, "\x00\x01\x02" + string(leb.U(math.MaxInt64))},
		{"an object whose place is farther", 1, "\x00\x01\x02" + string(leb.U(math.MaxUint64))},
		{"objects' actors of two ops", 1, "\x00\x01\x7f\x01"},
		{"objects' actors of four ops", 1, "\x00\x01\x03\x01"},
		{"objects' actors in another form", 1, "\x00\x01\x7e\x01\x01"},
		{"objects' actors that end too soon", 1, "\x00\x01\x02"},
		{"no object has an actor", 1, ""},
		{"objects' actors, all of whom are nothing", 1, "\x00\x03"},
		{"an object of the Ctr 0", 2, "\x00\x01\x02\x00"},
		{"an object of too great a Ctr", 2, "\x00\x01\x02" + string(leb.U(1<<53))},
		{"an object of a Ctr of 2^63 - 1", 2, "\x00\x01\x02" + string(leb.U(math.MaxInt64))},
		{"an object without a Ctr", 2, "\x00\x02\x7f\x02"},
		{"an object of a Ctr, without an actor", 2, "\x03\x02"},
		{"an object of the Ctr 0, without an actor", 2, "\x7f\x00\x02\x02"},
		{"no object has a Ctr", 2, ""},
		{"an element of nobody", 17, ""},
		{"an element whose place isn't in the table", 17, "\x00\x02\x7f\x02"},
		{"the beginning, with an actor", 17, "\x00\x01\x02\x00"},
		{"the beginning, with one who isn't in the table", 17, "\x00\x01\x7e\x02\x00"},
		{"a key, beside an element's actor", 17, "\x7f\x00\x00\x01\x7f\x00"},
		{"a key, beside a place that isn't in the table", 17, "\x7f\x02\x00\x01\x7f\x00"},
		{"elements' actors of two ops", 17, "\x00\x01\x7f\x00"},
		{"a key, beside the Ctr 0", 19, "\x02\x00\x7f\x05"},
		{"a key, beside a Ctr", 19, "\x7d\x01\x7f\x05"},
		{"the beginning, without a Ctr", 19, "\x00\x02\x7f\x05"},
		{"the beginning, with a Ctr", 19, "\x00\x01\x7e\x01\x05"},
		{"the beginning, with a Ctr below 0", 19, "\x00\x01\x7e\x7f\x05"},
		{"an element of the Ctr 0", 19, "\x00\x01\x02\x00"},
		{"an element of a Ctr below 0", 19, "\x00\x01\x7e\x00\x7f"},
		{"an element of too great a Ctr", 19, "\x00\x01\x7e\x00" + string(leb.S(1<<53))},
		{"an element without a Ctr", 19, "\x00\x01\x7f\x00\x00\x01"},
		{"no element has a Ctr", 19, ""},
		{"elements' Ctrs of two ops", 19, "\x00\x01\x7f\x00"},
		{"elements' Ctrs of four ops", 19, "\x00\x01\x7d\x00\x05\x00"},
		{"no key, and no element", 21, ""},
		{"a key, and the beginning", 21, "\x02\x01k\x00\x01"},
		{"a key, and an element", 21, "\x7f\x01k\x00\x01\x7f\x01k"},
		{"a key that isn't UTF-8", 21, "\x7f\x01\xff\x00\x02"},
		{"a key that is a piece of a character", 21, "\x7f\x01\xc3\x00\x02"},
		{"a key of 4001 bytes", 21, "\x7f\xa1\x1f" + strings.Repeat("k", 4001) + "\x00\x02"},
		{"keys of two ops", 21, "\x7f\x01k\x00\x01"},
		{"keys of four ops", 21, "\x7f\x01k\x00\x03"},
		{"keys that end too soon", 21, "\x7f\x01"},
		{"a key that inserts", 52, "\x00\x03"},
		{"inserts of two ops", 52, "\x01\x01"},
		{"inserts of four ops", 52, "\x01\x02\x01"},
		{"inserts of four ops, all but one of which do", 52, "\x01\x03"},
		{"inserts of which none does", 52, "\x03"},
		{"inserts, in another form", 52, "\x01\x01\x00\x01"},
		{"no actions", 66, ""},
		{"no action of one op", 66, "\x02\x01\x00\x01"},
		{"no action of any op", 66, "\x00\x03"},
		{"an action of 1001", 66, "\x02\x01\x7f\xe9\x07"},
		{"an action of 2^63 - 1", 66, "\x02\x01\x7f" + string(leb.U(math.MaxInt64))},
		{"actions of two ops", 66, "\x02\x01"},
		{"actions of four ops", 66, "\x04\x01"},
		{"actions, in another form", 66, "\x02\x01\x7f\x01"},
		{"what values are, of two ops", 86, "\x7f\x13\x00\x01"},
		{"what values are, of four ops", 86, "\x7f\x13\x00\x03"},
		{"a value of a kind that isn't", 86, "\x7f\x19\x00\x02"},
		{"a value of no bytes, that has some", 86, "\x7f\x12\x00\x02"},
		{"a value that is told to be Null", 86, "\x7f\x10\x00\x02"},
		{"a value of more bytes", 86, "\x7f\x26\x00\x02"},
		{"a value of fewer bytes", 86, "\x7f\x06\x00\x02"},
		{"no value has a kind", 86, ""},
		{"no value has bytes", 87, ""},
		{"values have more bytes", 87, "\x07\x07"},
		{"a value in another form", 87, "\x80"},
		{"how many preds, of two ops", 112, "\x00\x01\x7f\x02"},
		{"how many preds, of four ops", 112, "\x00\x02\x7f\x02\x00\x01"},
		{"fewer preds", 112, "\x00\x02\x7f\x01"},
		{"more preds", 112, "\x00\x02\x7f\x03"},
		{"17 preds", 112, "\x00\x02\x7f\x11"},
		{"preds that are told to be none", 112, "\x02\x00\x7f\x02"},
		{"nobody is told to have preds", 112, ""},
		{"all are told to have no preds", 112, "\x03\x00"},
		{"a pred of nobody", 113, "\x7f\x00\x00\x01"},
		{"a pred whose place isn't in the table", 113, "\x7e\x00\x02"},
		{"one pred's actor", 113, "\x7f\x00"},
		{"three preds' actors", 113, "\x7d\x00\x01\x00"},
		{"no pred has an actor", 113, ""},
		{"preds of one Ctr that fall", 115, "\x7e\x01\x00"},
		{"preds of falling Ctrs", 115, "\x7e\x03\x7f"},
		{"a pred of the Ctr 0", 115, "\x7e\x00\x02"},
		{"a pred of a Ctr below 0", 115, "\x7e\x7f\x02"},
		{"a pred of too great a Ctr", 115, "\x7e\x01" + string(leb.S(1<<53-1))},
		{"a pred without a Ctr", 115, "\x7f\x01\x00\x01"},
		{"one pred's Ctr", 115, "\x7f\x01"},
		{"three preds' Ctrs", 115, "\x7d\x01\x02\x02"},
		{"no pred has a Ctr", 115, ""},
		{"a column 0", 0, "\x03\x01"},
		{"a column 3", 3, "\x03\x01"},
		{"a column 18", 18, "\x03\x01"},
		{"a column 114", 114, "\x03\x01"},
		{"a column 116", 116, "\x03\x01"},
		{"a column 2^20", 1 << 20, "\x03\x01"},
	} {
		refused(t, c.name, table, change(right, c.id, c.data))
	}
	for _, c := range right {
		if c.Id != 52 { // without it none of the ops inserts
			refused(t, "a column less", table, change(right, c.Id, ""))
		}
		refused(t, "a byte more", table, change(right, c.Id, string(c.Data)+"\x01"))
		refused(t, "a byte less", table, change(right, c.Id, string(c.Data[:len(c.Data)-1])))
	}
	refused(t, "a table too small", table[:1], right)
	refused(t, "no table", nil, right)
	refused(t, "a table of no actors", []string{"", seventeen}, right)
	refused(t, "a table of an actor, and none", []string{"m", ""}, right)
	refused(t, "a table of an actor, and a text too long", []string{"m", seventeen}, right)
	refused(t, "columns of the same preds twice", []string{"m"}, text(19, "\x7f\x00", 66, "\x7f\x00", 112, "\x7f\x02", 113, "\x02\x00", 115, "\x7e\x01\x00"))
	for _, c := range right {
		if c.Id != 66 {
			refused(t, "a column alone", table, []dir.Col{c})
		}
	}
	refused(t, "values of no ops", table, text(86, "\x7f\x13", 87, "\x07"))
	refused(t, "bytes of values of no ops", table, text(87, "\x07"))
}

// TestNeighbours changes one column of three ops, so that they are other ones.
func TestNeighbours(t *testing.T) {
	table, l := three()
	right := plainPut(table, l)
	for _, c := range []struct {
		id   int
		data string
		want func(l []api.Op)
	}{
		{1, "\x00\x01\x02\x00", func(l []api.Op) { l[1].Obj, l[2].Obj = id(2, "m"), id(2, "m") }},
		{1, "\x00\x01\x7e\x00\x01", func(l []api.Op) { l[1].Obj = id(2, "m") }},
		{2, "\x00\x01\x02" + string(leb.U(1<<53-1)), func(l []api.Op) { l[1].Obj, l[2].Obj = id(1<<53-1, "a"), id(1<<53-1, "a") }},
		{17, "\x00\x02\x7f\x01", func(l []api.Op) { l[2].Elem = id(5, "a") }},
		{19, "\x00\x01\x7e\x00\x01", func(l []api.Op) { l[2].Elem = id(1, "m") }},
		{19, "\x00\x01\x7e\x00" + string(leb.S(1<<53-1)), func(l []api.Op) { l[2].Elem = id(1<<53-1, "m") }},
		{21, "\x7f\x00\x00\x02", func(l []api.Op) { l[0].Key = "" }},
		{21, "\x7f\xa0\x1f" + strings.Repeat("k", 4000) + "\x00\x02", func(l []api.Op) { l[0].Key = strings.Repeat("k", 4000) }},
		{52, "\x01\x01\x01", func(l []api.Op) { l[2].Insert = false }},
		{52, "", func(l []api.Op) { l[1].Insert, l[2].Insert = false, false }},
		{66, "\x03\x00", func(l []api.Op) { l[0].Action, l[1].Action, l[2].Action = 0, 0, 0 }},
		{66, "\x02\x01\x7f\xe8\x07", func(l []api.Op) { l[2].Action = 1000 }},
		{86, "\x7f\x16\x00\x02", func(l []api.Op) { l[0].Val = api.Value{Kind: api.Bytes, S: "\x07"} }},
		{86, "\x00\x01\x7f\x15\x00\x01", func(l []api.Op) { l[0].Val, l[1].Val = api.Value{}, api.Value{Kind: api.Text, S: "\x07"} }},
		{87, "\x00", func(l []api.Op) { l[0].Val.U = 0 }},
		{112, "\x02\x01\x00\x01", func(l []api.Op) { l[0].Preds, l[1].Preds, l[2].Preds = l[2].Preds[:1], l[2].Preds[1:], nil }},
		{112, "\x7f\x02\x00\x02", func(l []api.Op) { l[0].Preds, l[2].Preds = l[2].Preds, nil }},
		{113, "\x02\x00", func(l []api.Op) { l[2].Preds = []api.OpId{id(1, "m"), id(3, "m")} }},
		{113, "\x7e\x01\x00", func(l []api.Op) { l[2].Preds = []api.OpId{id(1, "a"), id(3, "m")} }},
		{115, "\x02\x01", func(l []api.Op) { l[2].Preds = []api.OpId{id(1, "m"), id(2, "a")} }},
		{115, "\x7e\x01" + string(leb.S(1<<53-2)), func(l []api.Op) { l[2].Preds = []api.OpId{id(1, "m"), id(1<<53-1, "a")} }},
	} {
		want := op.Copy(l...)
		c.want(want)
		both(t, table, want, change(right, c.id, c.data))
	}
	other := op.Copy(l...)
	other[1].Obj, other[2].Obj, other[2].Preds[1] = id(2, "b"), id(2, "b"), id(3, "b")
	both(t, []string{"m", "b"}, other, right)
}

// TestOrderOfColumns holds that columns out of order, doubled ones, and ones without bytes aren't any ops' columns, and that all such calls end.
func TestOrderOfColumns(t *testing.T) {
	table, l := three()
	right := plainPut(table, l)
	refused(t, "columns twice", table, append(slices.Clone(right), right...))
	back := slices.Clone(right)
	slices.Reverse(back)
	refused(t, "columns that fall", table, back)
	for i, c := range right {
		refused(t, "a column twice", table, slices.Insert(slices.Clone(right), i, c))
		refused(t, "a column twice, once without bytes", table, slices.Insert(slices.Clone(right), i, dir.Col{Id: c.Id}))
		refused(t, "a column twice, once without bytes, behind", table, slices.Insert(slices.Clone(right), i+1, dir.Col{Id: c.Id}))
		refused(t, "a column without bytes", table, slices.Insert(change(right, c.Id, ""), i, dir.Col{Id: c.Id, Data: []byte{}}))
		refused(t, "a column of another number", table, slices.Replace(slices.Clone(right), i, i+1, dir.Col{Id: c.Id + 1, Data: c.Data}))
		refused(t, "a column of a number below 0", table, slices.Replace(slices.Clone(right), i, i+1, dir.Col{Id: -c.Id, Data: c.Data}))
	}
	refused(t, "one column without bytes", table, []dir.Col{{}})
	refused(t, "one column of actions without bytes", table, []dir.Col{{Id: 66}})
	refused(t, "columns of numbers that aren't any", table, []dir.Col{{Id: math.MinInt, Data: []byte{1}}, {Id: math.MaxInt, Data: []byte{1}}})
}

// TestOnePlaceAlone holds that no table leads to ops of which it tells other columns, and that of like texts the first one counts.
func TestOnePlaceAlone(t *testing.T) {
	columns := func(place byte) []dir.Col {
		return text(1, "\x7f"+string([]byte{place}), 2, "\x7f\x01", 19, "\x7f\x00", 66, "\x7f\x00")
	}
	for _, table := range [][]string{{"a", "b", "a"}, {"a", "a", "a"}, {"", "a", ""}} {
		for i := range byte(5) {
			l, e := cols.Get(table, columns(i))
			if e == api.OK && !alike(cols.Put(table, l...), columns(i)) || e != api.OK && len(l) > 0 {
				t.Errorf("Get of the place %d in %q = %s, %d", i, table, brief(l), e)
			}
			if first := int(i) < len(table) && table[i] != "" && slices.Index(table, table[i]) == int(i); first != (e == api.OK) {
				t.Errorf("Get of the place %d in %q = %d", i, table, e)
			}
		}
	}
}

// TestNobody holds that an op that speaks of one who isn't in the table isn't read as one that speaks of another one.
func TestNobody(t *testing.T) {
	for _, o := range []api.Op{{Obj: id(1, "nobody")}, {Elem: id(1, "nobody")}, {Preds: []api.OpId{id(1, "nobody")}}} {
		for _, table := range [][]string{nil, {"m"}, {"m", "a"}} {
			if l, e := cols.Get(table, cols.Put(table, o)); e != api.ErrForm || len(l) != 0 {
				t.Errorf("by %q, %s is read as %s, %d", table, brief(o), brief(l), e)
			}
		}
	}
}

// drawnOps answers ops that may be.
func drawnOps(rnd *rand.Rand, table []string) []api.Op {
	name := func() api.OpId {
		ctr := int64(rnd.IntN(3) + 1)
		if rnd.IntN(10) == 0 {
			ctr = rnd.Int64N(1<<53-1) + 1
		}
		return id(ctr, table[rnd.IntN(len(table))])
	}
	vals := []api.Value{{}, {}, {Kind: api.False}, {Kind: api.True}, {Kind: api.Uint, U: uint64(rnd.IntN(300))}, {Kind: api.Int, N: int64(rnd.IntN(300) - 150)},
		{Kind: api.Text, S: "ä"}, {Kind: api.Bytes, S: "\xff\x00"}, {Kind: api.Counter}, {Kind: api.Time, N: -1}, {Kind: api.Text}}
	var l []api.Op
	for range rnd.IntN(6) {
		var o api.Op
		if rnd.IntN(2) == 0 {
			o.Obj = name()
		}
		switch rnd.IntN(3) {
		case 0:
			o.Keyed, o.Key = true, []string{"", "k", "ö", "long key"}[rnd.IntN(4)]
		case 1:
			o.Elem, o.Insert = name(), rnd.IntN(2) == 0
		default:
			o.Insert = rnd.IntN(2) == 0
		}
		o.Action = int64(rnd.IntN(3)) * int64(rnd.IntN(501))
		o.Val = vals[rnd.IntN(len(vals))]
		for range rnd.IntN(2) * rnd.IntN(5) {
			o.Preds = append(o.Preds, name())
		}
		slices.SortFunc(o.Preds, op.Compare)
		o.Preds = slices.Compact(o.Preds)
		l = append(l, slices.Repeat([]api.Op{o}, 1+rnd.IntN(4)*rnd.IntN(2))...)
	}
	return l
}

func TestWhatIsPutIsRead(t *testing.T) {
	rnd := rand.New(rand.NewPCG(19, 1))
	for range 10000 {
		table := []string{"m", "a", "b", sixteen}[:1+rnd.IntN(4)]
		l := drawnOps(rnd, table)
		if !op.Right(l...) {
			t.Fatalf("%s may not be", brief(l))
		}
		both(t, table, l, plainPut(table, l))
		if t.Failed() {
			return
		}
	}
}

// agrees tells a test that columns aren't read as the chapter's words have it; it tells whether they are any.
func agrees(t *testing.T, table []string, columns []dir.Col) bool {
	t.Helper()
	want, ok := plainGet(table, columns)
	if !ok {
		gets(t, table, columns, nil, api.ErrForm)
		return false
	}
	gets(t, table, columns, want, api.OK)
	if back := cols.Put(table, want...); !alike(back, columns) {
		t.Errorf("Get(%s, %s): the columns of these ops are %s", brief(table), brief(columns), brief(back))
	}
	return true
}

// TestAllShortColumns holds each column of some ops, changed to all rows of up to five of some bytes.
func TestAllShortColumns(t *testing.T) {
	table := []string{"m", "a"}
	letters := []byte("\x00\x01\x02\x03\x7e\x7f")
	rows := []string{""}
	for from := 0; len(rows[from]) < 5; from++ {
		for _, x := range letters {
			rows = append(rows, rows[from]+string([]byte{x}))
		}
	}
	_, l := three()
	met := map[bool]int{}
	for _, base := range [][]api.Op{{{}}, {l[2]}, {l[0], {}, l[2]}} {
		columns := plainPut(table, base)
		for _, id := range []int{1, 2, 17, 19, 21, 52, 66, 86, 87, 112, 113, 115} {
			for _, data := range rows {
				met[agrees(t, table, change(columns, id, data))]++
				if t.Failed() {
					return
				}
			}
		}
	}
	if met[true] < 100 || met[false] < 100 {
		t.Errorf("met: %v", met)
	}
}

// wrong answers columns, of which, now and then, some are others, too many, or too few.
func wrong(rnd *rand.Rand, columns []dir.Col) []dir.Col {
	known := []int{1, 2, 17, 19, 21, 52, 66, 86, 87, 112, 113, 115}
	letters := []byte{0, 1, 2, 3, 4, 125, 126, 127, 128, 255, 'k', 19, 22}
	all := slices.Clone(columns)
	for range rnd.IntN(3) {
		id := known[rnd.IntN(len(known))]
		if len(all) > 0 && rnd.IntN(4) > 0 {
			id = all[rnd.IntN(len(all))].Id
		}
		data := dir.Find(all, id)
		at := rnd.IntN(len(data) + 1)
		switch x := letters[rnd.IntN(len(letters))]; {
		case rnd.IntN(10) == 0:
			data = nil
		case rnd.IntN(3) == 0 || at == len(data):
			data = slices.Insert(data, at, x)
		case rnd.IntN(3) == 0:
			data = slices.Delete(data, at, at+1)
		default:
			data[at] = x
		}
		all = change(all, id, string(data))
	}
	if rnd.IntN(50) == 0 {
		all = change(all, rnd.IntN(130), "\x01\x01")
	}
	return all
}

// TestOneFormAlone hands in columns of all sorts: those that are read are put as just these, and all others are refused.
func TestOneFormAlone(t *testing.T) {
	rnd := rand.New(rand.NewPCG(19, 2))
	met := map[bool]int{}
	changed := 0
	for range 50000 {
		table := []string{"m", "a", "b", sixteen}
		columns := plainPut(table, drawnOps(rnd, table))
		other := wrong(rnd, columns)
		ok := agrees(t, table[:1+rnd.IntN(4)], other)
		if t.Failed() {
			return
		}
		met[ok]++
		if ok && !alike(columns, other) {
			changed++
		}
	}
	if met[true] < 1000 || met[false] < 1000 || changed < 200 {
		t.Errorf("met: %v, changed: %d", met, changed)
	}
}

// TestMadeOfCells hands in columns of drawn cells, each in its one form: of many of them there are ops.
func TestMadeOfCells(t *testing.T) {
	rnd := rand.New(rand.NewPCG(19, 3))
	table := []string{"m", "a"}
	cells := func(n int, least, most int64) []api.Cell {
		l := make([]api.Cell, n)
		for i := range l {
			if rnd.IntN(4) > 0 {
				l[i] = api.Cell{Is: true, N: least + rnd.Int64N(most-least+1)}
			}
		}
		return l
	}
	met := map[bool]int{}
	for range 200000 {
		n := rnd.IntN(3)
		texts := make([]api.Word, n)
		inserts := make([]bool, n)
		for i := range n {
			if rnd.IntN(2) == 0 {
				texts[i] = api.Word{Is: true, S: "k"}
			}
			inserts[i] = rnd.IntN(3) == 0
		}
		counts := cells(n, 0, 2)
		preds := 0
		for _, c := range counts {
			preds += int(c.N)
		}
		actors := cells(n, 0, 1+rnd.Int64N(2))
		if rnd.IntN(2) == 0 {
			actors = make([]api.Cell, n)
		}
		if rnd.IntN(2) == 0 {
			counts, preds = nil, 0
		}
		var all []dir.Col
		for _, c := range []dir.Col{
			{Id: 1, Data: rle.Put(actors...)}, {Id: 2, Data: rle.Put(cells(n, 0, 2)...)},
			{Id: 17, Data: rle.Put(cells(n, 0, 2)...)}, {Id: 19, Data: delta.Put(cells(n, -1, 2)...)},
			{Id: 21, Data: rle.PutW(texts...)}, {Id: 52, Data: bools.Put(inserts...)}, {Id: 66, Data: rle.Put(cells(n, 999, 1000)...)},
			{Id: 112, Data: rle.Put(counts...)}, {Id: 113, Data: rle.Put(cells(preds, 0, 2)...)}, {Id: 115, Data: delta.Put(cells(preds, 0, 3)...)},
		} {
			if len(c.Data) > 0 && rnd.IntN(6) > 0 {
				all = append(all, c)
			}
		}
		met[agrees(t, table, all) && n > 0]++
		if t.Failed() {
			return
		}
	}
	if met[true] < 1000 || met[false] < 1000 {
		t.Errorf("met: %v", met)
	}
}

// TestNoTwoLists holds that unlike lists of ops have unlike columns.
func TestNoTwoLists(t *testing.T) {
	table := []string{"m", "a"}
	ones := []api.Op{{}, {Insert: true}, {Keyed: true}, {Keyed: true, Key: "k"}, {Action: 1}, {Val: api.Value{Kind: api.False}}, {Val: api.Value{Kind: api.Text}}}
	for _, x := range []api.OpId{id(1, "m"), id(1, "a"), id(2, "m")} {
		ones = append(ones, api.Op{Obj: x}, api.Op{Elem: x}, api.Op{Elem: x, Insert: true}, api.Op{Obj: x, Keyed: true}, api.Op{Preds: []api.OpId{x}}, api.Op{Keyed: true, Preds: []api.OpId{x}})
	}
	ones = append(ones, api.Op{Preds: []api.OpId{id(1, "a"), id(1, "m")}}, api.Op{Preds: []api.OpId{id(1, "m"), id(2, "m")}})
	lists := [][]api.Op{nil}
	for from := 0; from < len(lists) && len(lists[from]) < 3; from++ {
		for _, o := range ones {
			lists = append(lists, append(slices.Clone(lists[from]), o))
		}
	}
	met := map[string]bool{}
	for _, l := range lists {
		met[string(dir.Put(cols.Put(table, l...)...))] = true
	}
	if len(met) != len(lists) {
		t.Errorf("%d lists have %d rows of columns", len(lists), len(met))
	}
}

// TestOnlyBytesAndRising holds that columns are told by rising numbers, each with bytes, of whatever ops.
func TestOnlyBytesAndRising(t *testing.T) {
	rnd := rand.New(rand.NewPCG(19, 4))
	for range 2000 {
		last := 0
		for _, c := range cols.Put([]string{"m", "a"}, drawnOps(rnd, []string{"m", "a"})...) {
			if c.Id <= last || len(c.Data) == 0 {
				t.Fatalf("the column %d of %d bytes behind %d", c.Id, len(c.Data), last)
			}
			last = c.Id
		}
	}
}

// fill fills bytes, spare room included.
func fill(b []byte, x byte) {
	for i := range b[:cap(b)] {
		b[:cap(b)][i] = x
	}
}

// TestMemoryOfPut holds that what is put isn't changed or kept, spare room included, and that answers share no memory.
func TestMemoryOfPut(t *testing.T) {
	table, l := three()
	want := plainPut(table, l)
	names := append(slices.Clone(table), "room")
	given := append(op.Copy(l...), api.Op{Action: 7})
	given[2].Preds = append(given[2].Preds, id(9, "room"))[:2]
	columns := cols.Put(names[:2], given[:3]...)
	other := cols.Put(names[:2], given[:3]...)
	for _, c := range other {
		fill(c.Data, 99)
	}
	for i := range other[:cap(other)] {
		other[:cap(other)][i] = dir.Col{Id: 99}
	}
	if !slices.Equal(names, []string{"m", "a", "room"}) || !slices.EqualFunc(given[:3], l, op.Same) || given[3].Action != 7 || given[2].Preds[:3][2] != id(9, "room") {
		t.Error("Put changed what was handed in")
	}
	for i := range given[2].Preds {
		given[2].Preds[i] = id(99, "spoilt")
	}
	clear(given)
	clear(names)
	if !alike(columns, want) {
		t.Errorf("the answer became %s", brief(columns))
	}
	for i, c := range columns {
		fill(c.Data, 99)
		if !alike(columns[i+1:], want[i+1:]) {
			t.Fatalf("the column %d shares memory with another one", c.Id)
		}
	}
}

// TestMemoryOfGet holds that columns aren't changed or kept, spare room included, and that answers share no memory.
func TestMemoryOfGet(t *testing.T) {
	table, l := three()
	l[0].Preds = []api.OpId{id(7, "a")}
	l[1].Preds = []api.OpId{id(8, "a")}
	want := plainPut(table, l)
	names := append(slices.Clone(table), "room")
	given := roomy(want)
	got, e := cols.Get(names[:2], given)
	other, _ := cols.Get(names[:2], given)
	if e != api.OK || !alike(given, want) || !slices.Equal(names, append(slices.Clone(table), "room")) {
		t.Fatalf("Get = %d, or it changed what was handed in", e)
	}
	for i, c := range given {
		if string(c.Data[:len(c.Data)+3]) != string(want[i].Data)+"\x01\x01\x7f" {
			t.Errorf("Get changed spare room of the column %d", c.Id)
		}
	}
	if more := given[:len(given)+1]; more[len(given)].Id != 116 {
		t.Error("Get changed spare room of the columns")
	}
	for _, c := range given {
		fill(c.Data, 99)
	}
	clear(given)
	clear(names)
	for i, o := range other {
		for j := range o.Preds[:cap(o.Preds)] {
			o.Preds[:cap(o.Preds)][j] = id(99, "spoilt")
		}
		if !slices.EqualFunc(other[i+1:], l[i+1:], op.Same) {
			t.Fatalf("the preds of the op %d share memory with another one's", i)
		}
	}
	clear(other[:cap(other)])
	if !slices.EqualFunc(got, l, op.Same) {
		t.Errorf("the answer became %s", brief(got))
	}
}

// TestTextsAreNew holds that no answer keeps a text of the table, of which it may be a piece, nor two ops one text.
func TestTextsAreNew(t *testing.T) {
	long := strings.Repeat("abcdefgh", 1000)
	table := []string{long[:8], long[1:9]}
	val := api.Value{Kind: api.Text, S: "value"}
	l := []api.Op{
		{Obj: id(1, table[0]), Elem: id(1, table[1]), Preds: []api.OpId{id(1, table[0]), id(1, table[1])}, Val: val},
		{Keyed: true, Key: "key", Val: val}, {Keyed: true, Key: "key", Val: val},
	}
	got, e := cols.Get(table, plainPut(table, l))
	if e != api.OK {
		t.Fatal(e)
	}
	from := uintptr(unsafe.Pointer(unsafe.StringData(long)))
	met := map[uintptr]bool{}
	for _, o := range got {
		for _, s := range []string{o.Key, o.Val.S} {
			met[uintptr(unsafe.Pointer(unsafe.StringData(s)))] = s != ""
		}
		for _, x := range append([]api.OpId{o.Obj, o.Elem}, o.Preds...) {
			at := uintptr(unsafe.Pointer(unsafe.StringData(x.Actor)))
			if x.Actor != "" && at >= from && at < from+uintptr(len(long)) {
				t.Errorf("%q is a piece of what was handed in", x.Actor)
			}
		}
	}
	delete(met, 0)
	if len(met) < 5 {
		t.Error("two ops share a text")
	}
}

// TestEndsAtManyActors holds that ops that speak of as many as may be are told and read in a moment.
func TestEndsAtManyActors(t *testing.T) {
	var table []string
	name := func(ctr int64) api.OpId {
		a := fmt.Sprintf("%x", len(table)+1<<20)
		table = append(table, a)
		return id(ctr, a)
	}
	var l []api.Op
	for i := range int64(2000) {
		o := api.Op{Obj: name(i + 1), Elem: name(2*i + 1), Insert: i%2 == 0, Action: i % 1001}
		for j := range int64(16) {
			o.Preds = append(o.Preds, name(j*1000+1))
		}
		l = append(l, o)
	}
	columns := cols.Put(table, l...)
	if got, e := cols.Get(table, columns); e != api.OK || !slices.EqualFunc(got, l, op.Same) {
		t.Errorf("Get = %s, %d", brief(got), e)
	}
	if got, e := cols.Get(table[:len(table)-1], columns); e != api.ErrForm || len(got) != 0 {
		t.Errorf("Get without the last one = %s, %d", brief(got), e)
	}
}

// TestEndsAtAnything hands in ops that may not be, or whom no table has: Put ends, changes nothing, and what isn't told as it was isn't read as another op.
func TestEndsAtAnything(t *testing.T) {
	least := id(math.MinInt64, seventeen)
	for _, o := range []api.Op{
		{Obj: id(1, "nobody")}, {Elem: id(1, "nobody")}, {Preds: []api.OpId{id(1, "nobody")}},
		{Obj: least, Elem: least, Preds: []api.OpId{least, {}, least}}, {Obj: id(0, "m")}, {Obj: id(1, "")},
		{Elem: id(0, "m")}, {Elem: id(1, "")}, {Preds: []api.OpId{{}}}, {Preds: preds(17)}, {Preds: slices.Repeat(preds(1), 1000)},
		{Keyed: true, Elem: id(1, "m")}, {Keyed: true, Insert: true}, {Key: "k"}, {Keyed: true, Key: "\xff"}, {Keyed: true, Key: strings.Repeat("k", 4001)},
		{Action: -1}, {Action: 1001}, {Action: math.MinInt64}, {Action: math.MaxInt64},
		{Val: api.Value{Kind: -1}}, {Val: api.Value{Kind: 9}}, {Val: api.Value{Kind: math.MinInt}}, {Val: api.Value{Kind: math.MaxInt, S: "x"}},
		{Val: api.Value{Kind: api.Text, S: "\xff"}}, {Val: api.Value{Kind: api.Bytes, S: strings.Repeat("x", 4001)}}, {Val: api.Value{U: 1}},
	} {
		for _, table := range [][]string{nil, {"m"}, {"", seventeen}, {"m", "m"}} {
			given := op.Copy(o)[0]
			columns := cols.Put(table, given, api.Op{}, given)
			if !reflect.DeepEqual(given, op.Copy(o)[0]) {
				t.Errorf("Put changed %s", brief(o))
			}
			if l, e := cols.Get(table, columns); e == api.OK && (!op.Right(l...) || !alike(cols.Put(table, l...), columns)) {
				t.Errorf("Get of the columns of %s = %s", brief(o), brief(l))
			}
		}
	}
	many := slices.Repeat([]api.Op{{Obj: id(1, "m")}}, 100000)
	if got := cols.Put([]string{"m"}, many...); !alike(got, plainPut([]string{"m"}, many)) {
		t.Error("columns of very many ops are others")
	}
}
