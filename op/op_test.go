package op_test

import (
	"fmt"
	"math"
	"math/rand/v2"
	"reflect"
	"slices"
	"strings"
	"testing"
	"unicode/utf8"
	"unsafe"

	"inkwell/api"
	"inkwell/op"
	"inkwell/value"
)

// brief answers what is told of anything, but its middle, if it is long.
func brief(x any) string {
	s := fmt.Sprintf("%+q", x)
	if len(s) <= 300 {
		return s
	}
	return s[:150] + " .. " + s[len(s)-150:]
}

func id(ctr int64, actor string) api.OpId {
	return api.OpId{Ctr: ctr, Actor: actor}
}

const (
	sixteen   = "0123456789abcdef"
	seventeen = sixteen + "g"
)

// plainId tells by the chapter's words whether a name may name something.
func plainId(x api.OpId) bool {
	return 0 < x.Ctr && x.Ctr < 9007199254740992 && 0 < len(x.Actor) && len(x.Actor) < 17
}

// plainZero tells by the chapter's words whether a name names nothing.
func plainZero(x api.OpId) bool {
	return x.Ctr == 0 && len(x.Actor) == 0
}

// plainBytes holds two texts against each other byte by byte.
func plainBytes(a, b string) int {
	for i := 0; ; i++ {
		switch {
		case i == len(a) && i == len(b):
			return 0
		case i == len(a):
			return -1
		case i == len(b):
			return 1
		case a[i] < b[i]:
			return -1
		case a[i] > b[i]:
			return 1
		}
	}
}

// plainCompare tells by the chapter's words which name is the lesser one.
func plainCompare(a, b api.OpId) int {
	if a.Ctr < b.Ctr {
		return -1
	}
	if a.Ctr > b.Ctr {
		return 1
	}
	return plainBytes(a.Actor, b.Actor)
}

// plainRight tells by the chapter's words whether an op may be.
func plainRight(o api.Op) bool {
	if !plainZero(o.Obj) && !plainId(o.Obj) {
		return false
	}
	if o.Keyed && (!utf8.ValidString(o.Key) || len(o.Key) > 4000 || !plainZero(o.Elem) || o.Insert) {
		return false
	}
	if !o.Keyed && (o.Key != "" || !plainZero(o.Elem) && !plainId(o.Elem)) {
		return false
	}
	if o.Action < 0 || o.Action > 1000 || !value.Right(o.Val) || len(o.Preds) > 16 {
		return false
	}
	for i, x := range o.Preds {
		if !plainId(x) || i > 0 && plainCompare(o.Preds[i-1], x) != -1 {
			return false
		}
	}
	return true
}

// plainNames answers by the chapter's words which names ops speak of.
func plainNames(l []api.Op) []api.OpId {
	var names []api.OpId
	add := func(x api.OpId) {
		if !plainZero(x) {
			names = append(names, x)
		}
	}
	for _, o := range l {
		add(o.Obj)
		add(o.Elem)
		for _, x := range o.Preds {
			add(x)
		}
	}
	return names
}

// plainSame tells whether ops are alike, a list without elements being one, nil or not.
func plainSame(a, b api.Op) bool {
	if len(a.Preds) == 0 && len(b.Preds) == 0 {
		a.Preds, b.Preds = nil, nil
	}
	return reflect.DeepEqual(a, b)
}

func TestActor(t *testing.T) {
	for _, c := range []struct {
		s  string
		ok bool
	}{
		{"", false},
		{"a", true},
		{"\x00", true},
		{"\xff", true}, // an actor needn't be UTF-8
		{"a b", true},
		{sixteen[:15], true},
		{sixteen, true},
		{strings.Repeat("\xff", 16), true},
		{seventeen, false},
		{strings.Repeat("\x00", 17), false},
		{strings.Repeat("\xc3\xa9", 8), true},
		{strings.Repeat("\xc3\xa9", 9), false}, // bytes count, not characters
		{strings.Repeat("a", 256), false},
		{strings.Repeat("a", 257), false},
		{strings.Repeat("a", 1<<20), false},
	} {
		if ok := op.Actor(c.s); ok != c.ok {
			t.Errorf("Actor(%s) = %v", brief(c.s), ok)
		}
		if ok := op.Id(id(1, c.s)); ok != c.ok {
			t.Errorf("Id of 1, %s = %v", brief(c.s), ok)
		}
	}
}

func TestActorOfMany(t *testing.T) {
	good := []string{"b", "a", sixteen, "a", "\xff"}
	if !op.Actor() || !op.Actor(good...) {
		t.Error("Actor is false of actors")
	}
	for _, bad := range []string{"", seventeen} {
		for i := range len(good) + 1 {
			if op.Actor(slices.Insert(slices.Clone(good), i, bad)...) {
				t.Errorf("Actor is true with %q at %d", bad, i)
			}
		}
	}
}

// someIds answers names of all sorts.
func someIds() []api.OpId {
	var l []api.OpId
	for _, n := range []int64{math.MinInt64, -1 << 53, -1 << 32, -2, -1, 0, 1, 2, 3, 255, 256, 1 << 32, 1<<32 + 1, 1<<53 - 2, 1<<53 - 1, 1 << 53, 1<<53 + 1, math.MaxInt64} {
		for _, a := range []string{"", "\x00", "a", "a\x00", "aa", "ab", "b", "B", "\x7f", "\x80", "\xc3\xa9", "\xff", sixteen, seventeen} {
			l = append(l, id(n, a))
		}
	}
	return l
}

func TestZeroAndId(t *testing.T) {
	for _, x := range someIds() {
		if ok := op.Zero(x); ok != plainZero(x) {
			t.Errorf("Zero(%s) = %v", brief(x), ok)
		}
		if ok := op.Id(x); ok != plainId(x) {
			t.Errorf("Id(%s) = %v", brief(x), ok)
		}
	}
	for _, c := range []struct {
		x        api.OpId
		zero, ok bool
	}{
		{id(0, ""), true, false},
		{id(0, "a"), false, false},
		{id(1, ""), false, false},
		{id(-1, "a"), false, false},
		{id(1, "a"), false, true},
		{id(api.MaxNum, sixteen), false, true},
		{id(api.MaxNum+1, sixteen), false, false},
		{id(api.MaxNum, seventeen), false, false},
	} {
		if zero, ok := op.Zero(c.x), op.Id(c.x); zero != c.zero || ok != c.ok {
			t.Errorf("%s: Zero is %v, Id is %v", brief(c.x), zero, ok)
		}
	}
}

func TestCompare(t *testing.T) {
	for _, c := range []struct {
		a, b api.OpId
		want int
	}{
		{id(0, ""), id(0, ""), 0},
		{id(1, "a"), id(1, "a"), 0},
		{id(1, "b"), id(2, "a"), -1}, // the Ctr is looked at first
		{id(1, "a"), id(1, "b"), -1},
		{id(1, "a"), id(1, "ab"), -1},
		{id(1, "ab"), id(1, "b"), -1},
		{id(1, "B"), id(1, "a"), -1},
		{id(1, "a"), id(1, "\xff"), -1}, // bytes have no sign
		{id(1, "\x7f"), id(1, "\x80"), -1},
		{id(1, "a"), id(1, "a\x00"), -1},
		{id(0, ""), id(1, "a"), -1},
		{id(0, ""), id(0, "\x00"), -1},
		{id(9, "a"), id(10, "a"), -1},
		{id(-1, "z"), id(0, ""), -1},
		{id(math.MinInt64, "z"), id(math.MaxInt64, "a"), -1},
		{id(math.MinInt64, "z"), id(1, "a"), -1},
		{id(1, "z"), id(1<<32, "a"), -1},
		{id(1<<53-1, "z"), id(1<<53, "a"), -1},
	} {
		if got := op.Compare(c.a, c.b); got != c.want {
			t.Errorf("Compare(%s, %s) = %d", brief(c.a), brief(c.b), got)
		}
		if got := op.Compare(c.b, c.a); got != -c.want {
			t.Errorf("Compare(%s, %s) = %d", brief(c.b), brief(c.a), got)
		}
	}
	all := someIds()
	for _, a := range all {
		for _, b := range all {
			if got := op.Compare(a, b); got != plainCompare(a, b) {
				t.Errorf("Compare(%s, %s) = %d", brief(a), brief(b), got)
			}
			if (op.Compare(a, b) == 0) != (a == b) {
				t.Errorf("Compare of %s and %s: they are alike, or not", brief(a), brief(b))
			}
		}
	}
}

// TestOneOrder holds that names, however they stand, are put in one order.
func TestOneOrder(t *testing.T) {
	all := someIds()
	for i, a := range all {
		for _, b := range all[i:] {
			for _, c := range all[:20] {
				if op.Compare(a, b) <= 0 && op.Compare(b, c) <= 0 && op.Compare(a, c) > 0 {
					t.Fatalf("%s, %s and %s are in no order", brief(a), brief(b), brief(c))
				}
			}
		}
	}
	first := slices.Clone(all)
	slices.SortFunc(first, op.Compare)
	rnd := rand.New(rand.NewPCG(17, 1))
	for range 50 {
		l := slices.Clone(all)
		rnd.Shuffle(len(l), func(i, j int) { l[i], l[j] = l[j], l[i] })
		slices.SortFunc(l, op.Compare)
		if !slices.Equal(l, first) {
			t.Fatal("the same names in another order")
		}
	}
}

// row answers so many rising names.
func row(n int) []api.OpId {
	var l []api.OpId
	for i := range n {
		l = append(l, id(int64(1+i/2), string(rune('a'+i%2))))
	}
	return l
}

func text(s string) api.Value {
	return api.Value{Kind: api.Text, S: s}
}

// rightOps answers ops that may be.
func rightOps() []api.Op {
	return []api.Op{
		{}, // the chapter's examples
		{Keyed: true, Key: "a"},
		{Keyed: true},
		{Keyed: true, Key: "h\xc3\xa9\xe2\x82\xac\xf0\x9f\x98\x80\x00"},
		{Keyed: true, Key: strings.Repeat("a", 4000)},
		{Keyed: true, Key: strings.Repeat("\xf0\x9f\x98\x80", 1000)},
		{Insert: true},
		{Elem: id(1, "a")},
		{Elem: id(3, "b"), Insert: true},
		{Elem: id(api.MaxNum, sixteen)},
		{Obj: id(1, "a")},
		{Obj: id(api.MaxNum, sixteen)},
		{Obj: id(2, "\xff"), Elem: id(1, "\xff")},
		{Obj: id(2, "a"), Keyed: true, Key: "k"},
		{Action: 1},
		{Action: 999},
		{Action: 1000},
		{Val: api.Value{Kind: api.True}},
		{Val: api.Value{Kind: api.Uint, U: math.MaxUint64}},
		{Val: api.Value{Kind: api.Time, N: math.MinInt64}},
		{Val: text(strings.Repeat("a", 4000))},
		{Val: api.Value{Kind: api.Bytes, S: "\xff"}},
		{Preds: []api.OpId{}},
		{Preds: []api.OpId{id(1, "a")}},
		{Preds: []api.OpId{id(1, "b"), id(2, "a")}},
		{Preds: []api.OpId{id(1, "a"), id(1, "ab"), id(1, "b"), id(2, "a")}},
		{Preds: []api.OpId{id(1, sixteen), id(api.MaxNum, sixteen)}},
		{Preds: row(15)},
		{Preds: row(16)},
		{Obj: id(1, "a"), Elem: id(1, "a"), Preds: []api.OpId{id(1, "a")}},
		{Obj: id(9, "z"), Elem: id(8, "y"), Insert: true, Action: 7, Val: api.Value{Kind: api.Int, N: -1}, Preds: row(3)},
		{Obj: id(9, "z"), Keyed: true, Key: "k", Action: 7, Val: api.Value{Kind: api.Counter, N: 1}, Preds: row(3)},
	}
}

// wrongOps answers ops that may not be, each for one reason alone.
func wrongOps() []api.Op {
	l := []api.Op{
		{Keyed: true, Key: "\xff"},
		{Keyed: true, Key: "a\xc3"},
		{Keyed: true, Key: "\xed\xa0\x80"},
		{Keyed: true, Key: strings.Repeat("a", 3999) + "\x80"},
		{Keyed: true, Key: strings.Repeat("a", 4001)},
		{Keyed: true, Key: strings.Repeat("\xe2\x82\xac", 1334)}, // bytes count, not characters
		{Keyed: true, Key: strings.Repeat("a", 1<<20)},
		{Keyed: true, Key: "a", Insert: true},
		{Keyed: true, Insert: true},
		{Keyed: true, Key: "a", Elem: id(1, "a")},
		{Keyed: true, Elem: id(1, "a")},
		{Keyed: true, Elem: id(0, "a")},
		{Keyed: true, Elem: id(1, "")},
		{Key: "a"},
		{Key: "\x00"},
		{Key: "a", Elem: id(1, "a")},
		{Key: "a", Insert: true},
		{Action: -1},
		{Action: 1001},
		{Action: 1 << 32},
		{Action: 1<<32 + 1},
		{Action: math.MinInt64},
		{Action: math.MaxInt64},
		{Val: api.Value{Kind: 9}},
		{Val: api.Value{Kind: -1}},
		{Val: api.Value{N: 1}},
		{Val: text("\xff")},
		{Val: text(strings.Repeat("a", 4001))},
		{Val: api.Value{Kind: api.Bytes, S: strings.Repeat("a", 4001)}},
		{Preds: row(17)},
		{Preds: row(1000)},
		{Preds: []api.OpId{{}}},
		{Preds: []api.OpId{{}, id(1, "a")}},
		{Preds: []api.OpId{id(1, "a"), {}}},
		{Preds: []api.OpId{id(1, "a"), id(1, "a")}},
		{Preds: []api.OpId{id(1, "b"), id(1, "a")}},
		{Preds: []api.OpId{id(1, "ab"), id(1, "a")}},
		{Preds: []api.OpId{id(2, "a"), id(1, "b")}},
		{Preds: []api.OpId{id(1, "a"), id(3, "a"), id(2, "a")}},
		{Preds: []api.OpId{id(1, "a"), id(2, "a"), id(1, "a")}},
		{Preds: append(row(15), id(1, "a"))},
	}
	for _, x := range someIds() {
		if plainId(x) || plainZero(x) {
			continue
		}
		l = append(l, api.Op{Obj: x}, api.Op{Elem: x}, api.Op{Elem: x, Insert: true}, api.Op{Preds: []api.OpId{x}},
			api.Op{Obj: x, Keyed: true, Key: "a"}, api.Op{Preds: []api.OpId{id(1, "!"), x}}, api.Op{Preds: []api.OpId{x, id(api.MaxNum, sixteen)}})
	}
	return l
}

func TestRight(t *testing.T) {
	good := rightOps()
	if !op.Right() || !op.Right(good...) || !op.Right(good[1], good[1]) {
		t.Error("Right is false of ops that may be")
	}
	for i, o := range good {
		if !op.Right(o) || !plainRight(o) {
			t.Errorf("%d: Right(%s) = false", i, brief(o))
		}
	}
	some := good[7:10]
	for i, bad := range wrongOps() {
		if op.Right(bad) || plainRight(bad) {
			t.Errorf("%d: Right(%s)", i, brief(bad))
		}
		for j := range len(some) + 1 {
			if op.Right(slices.Insert(slices.Clone(some), j, bad)...) {
				t.Errorf("%d: Right is true with %s at %d", i, brief(bad), j)
			}
		}
	}
	if op.MaxAction != 1000 {
		t.Errorf("MaxAction is %d", op.MaxAction)
	}
}

// pick answers one of some things.
func pick[T any](rnd *rand.Rand, l ...T) T {
	return l[rnd.IntN(len(l))]
}

// drawnId answers a name, that mostly may name something.
func drawnId(rnd *rand.Rand) api.OpId {
	if rnd.IntN(40) == 0 {
		return id(pick[int64](rnd, -1, 0, 1, 1<<53), pick(rnd, "", "a", seventeen))
	}
	return id(1+rnd.Int64N(30), pick(rnd, "a", "ab", "b", "\xff", sixteen))
}

// drawn answers an op of which now and then something may not be.
func drawn(rnd *rand.Rand) api.Op {
	o := api.Op{
		Action: pick[int64](rnd, 0, 1, 2, 7, 999, 1000),
		Val:    pick(rnd, api.Value{}, api.Value{Kind: api.True}, api.Value{Kind: api.Int, N: -5}, text("v"), text("h\xc3\xa9")),
	}
	if rnd.IntN(2) > 0 {
		o.Obj = drawnId(rnd)
	}
	if rnd.IntN(2) > 0 {
		o.Keyed, o.Key = true, pick(rnd, "", "k", "key", "\xc3\xa9")
	} else {
		o.Insert = rnd.IntN(2) > 0
		if rnd.IntN(2) > 0 {
			o.Elem = drawnId(rnd)
		}
	}
	for range rnd.IntN(5) * rnd.IntN(5) {
		o.Preds = append(o.Preds, drawnId(rnd))
	}
	if rnd.IntN(10) > 0 {
		slices.SortFunc(o.Preds, plainCompare)
		o.Preds = slices.Compact(o.Preds)
	}
	switch rnd.IntN(25) {
	case 0:
		o.Action = pick[int64](rnd, -1, 1001)
	case 1:
		o.Insert = true
	case 2:
		o.Keyed = !o.Keyed
	case 3:
		o.Key = pick(rnd, "\xff", "", "k")
	case 4:
		o.Elem = drawnId(rnd)
	case 5:
		o.Val.Kind = rnd.IntN(11) - 1
	}
	return o
}

func TestRightOfDrawn(t *testing.T) {
	rnd := rand.New(rand.NewPCG(17, 2))
	met := map[bool]int{}
	var last api.Op
	for range 100000 {
		o := drawn(rnd)
		want := plainRight(o)
		if op.Right(o) != want || op.Right(last, o) != (want && plainRight(last)) {
			t.Fatalf("Right(%s) = %v", brief(o), !want)
		}
		met[want]++
		last = o
	}
	if met[false] < 10000 || met[true] < 10000 {
		t.Errorf("met: %v", met)
	}
}

func TestNames(t *testing.T) {
	a, b, c, d := id(1, "a"), id(2, "b"), id(3, "c"), id(4, "d")
	for i, x := range []struct {
		l    []api.Op
		want []api.OpId
	}{
		{nil, nil},
		{[]api.Op{{}}, nil},
		{[]api.Op{{}, {Keyed: true, Key: "a"}}, nil},
		{[]api.Op{{Obj: a}}, []api.OpId{a}},
		{[]api.Op{{Elem: a}}, []api.OpId{a}},
		{[]api.Op{{Preds: []api.OpId{a}}}, []api.OpId{a}},
		{[]api.Op{{Obj: d, Elem: c, Preds: []api.OpId{a, b}}}, []api.OpId{d, c, a, b}}, // as they stand, in no other order
		{[]api.Op{{Obj: a, Elem: b, Preds: []api.OpId{c, d}}}, []api.OpId{a, b, c, d}},
		{[]api.Op{{Obj: a, Elem: a, Preds: []api.OpId{a}}, {Obj: a}}, []api.OpId{a, a, a, a}}, // each as often as they speak of it
		{[]api.Op{{Elem: c, Preds: []api.OpId{a}}, {}, {Obj: b}}, []api.OpId{c, a, b}},
		{[]api.Op{{Preds: []api.OpId{b, {}, a, {}}}}, []api.OpId{b, a}},
		{[]api.Op{{Preds: []api.OpId{{}}}}, nil},
		// A name that is neither zero nor may name something doesn't name nothing.
		{[]api.Op{{Obj: id(0, "a"), Elem: id(1, ""), Preds: []api.OpId{id(-1, "a")}}}, []api.OpId{id(0, "a"), id(1, ""), id(-1, "a")}},
		{[]api.Op{{Keyed: true, Elem: b, Insert: true}}, []api.OpId{b}},
		{[]api.Op{{Preds: row(17)}, {Preds: row(40)}}, append(row(17), row(40)...)},
	} {
		if got := op.Names(x.l...); !slices.Equal(got, x.want) {
			t.Errorf("%d: Names = %s; want %s", i, brief(got), brief(x.want))
		}
	}
	rnd := rand.New(rand.NewPCG(17, 3))
	for range 3000 {
		var l []api.Op
		for range rnd.IntN(8) {
			l = append(l, drawn(rnd))
		}
		if got, want := op.Names(l...), plainNames(l); !slices.Equal(got, want) {
			t.Fatalf("Names(%s) = %s; want %s", brief(l), brief(got), brief(want))
		}
	}
}

// others answers ops that are like one but for one field each.
func others(o api.Op) []api.Op {
	var l []api.Op
	change := func(f func(*api.Op)) {
		x := o
		x.Preds = slices.Clone(o.Preds)
		f(&x)
		l = append(l, x)
	}
	change(func(x *api.Op) { x.Obj.Ctr++ })
	change(func(x *api.Op) { x.Obj.Ctr += 1 << 32 })
	change(func(x *api.Op) { x.Obj.Actor += "x" })
	change(func(x *api.Op) { x.Key += "x" })
	change(func(x *api.Op) { x.Key += "\x00" })
	change(func(x *api.Op) { x.Keyed = !x.Keyed })
	change(func(x *api.Op) { x.Elem.Ctr++ })
	change(func(x *api.Op) { x.Elem.Actor += "x" })
	change(func(x *api.Op) { x.Insert = !x.Insert })
	change(func(x *api.Op) { x.Action++ })
	change(func(x *api.Op) { x.Action += 1 << 32 })
	change(func(x *api.Op) { x.Val.Kind++ })
	change(func(x *api.Op) { x.Val.U++ })
	change(func(x *api.Op) { x.Val.N++ })
	change(func(x *api.Op) { x.Val.S += "x" })
	change(func(x *api.Op) { x.Preds = append(x.Preds, api.OpId{}) })
	change(func(x *api.Op) { x.Preds = append(x.Preds, id(99, "z")) })
	for i := range o.Preds {
		change(func(x *api.Op) { x.Preds[i].Ctr++ })
		change(func(x *api.Op) { x.Preds[i].Actor += "x" })
		change(func(x *api.Op) { x.Preds = slices.Delete(x.Preds, i, i+1) })
	}
	if len(o.Preds) > 1 && o.Preds[0] != o.Preds[1] {
		change(func(x *api.Op) { x.Preds[0], x.Preds[1] = x.Preds[1], x.Preds[0] })
	}
	return l
}

// anew answers an op like one, no text or list of which is the same memory.
func anew(o api.Op) api.Op {
	o.Obj.Actor, o.Elem.Actor = strings.Clone(o.Obj.Actor), strings.Clone(o.Elem.Actor)
	o.Key, o.Val.S = strings.Clone(o.Key), strings.Clone(o.Val.S)
	preds := make([]api.OpId, 0, len(o.Preds)+1)
	for _, x := range o.Preds {
		preds = append(preds, id(x.Ctr, strings.Clone(x.Actor)))
	}
	o.Preds = preds
	return o
}

func TestSame(t *testing.T) {
	l := append(rightOps(), wrongOps()...)
	for _, o := range l {
		if !op.Same(o, o) || !op.Same(o, anew(o)) || !op.Same(anew(o), o) {
			t.Errorf("Same(%s) with itself = false", brief(o))
		}
		for i, x := range others(o) {
			if op.Same(o, x) || op.Same(x, o) {
				t.Errorf("%d: Same(%s, %s)", i, brief(o), brief(x))
			}
		}
	}
	for i, a := range l {
		for j, b := range l {
			if same := op.Same(a, b); same != plainSame(a, b) {
				t.Errorf("%d, %d: Same(%s, %s) = %v", i, j, brief(a), brief(b), same)
			}
		}
	}
	if !op.Same(api.Op{}, api.Op{Preds: []api.OpId{}}) || !op.Same(api.Op{Preds: []api.OpId{}}, api.Op{}) {
		t.Error("a list without elements is one, nil or not")
	}
}

// alike tells whether lists of ops are alike.
func alike(a, b []api.Op) bool {
	return slices.EqualFunc(a, b, plainSame)
}

func TestCopy(t *testing.T) {
	for _, l := range [][]api.Op{nil, {}, {{}}, {{}, {}}, rightOps(), wrongOps(), {{Preds: row(1000)}}, slices.Repeat(rightOps()[10:20], 200)} {
		if got := op.Copy(l...); !alike(got, l) {
			t.Errorf("Copy(%s) = %s", brief(l), brief(got))
		}
	}
	rnd := rand.New(rand.NewPCG(17, 4))
	for range 3000 {
		var l []api.Op
		for range rnd.IntN(8) {
			l = append(l, drawn(rnd))
		}
		got := op.Copy(l...)
		if !alike(got, l) {
			t.Fatalf("Copy(%s) = %s", brief(l), brief(got))
		}
		for i := range l {
			if !op.Same(got[i], l[i]) {
				t.Fatalf("Copy(%s)[%d] isn't the same", brief(l), i)
			}
		}
	}
}

// spoil changes all elements of a list of ops, and of their lists, spare room included.
func spoil(l []api.Op) {
	for i := range l[:cap(l)] {
		o := &l[:cap(l)][i]
		spoilIds(o.Preds)
		*o = api.Op{Key: "spoilt", Action: -99}
	}
}

// spoilIds changes all names of a list, spare room included.
func spoilIds(l []api.OpId) {
	for i := range l[:cap(l)] {
		l[:cap(l)][i] = id(-99, "spoilt")
	}
}

// roomy answers ops like some, with something in all spare room.
func roomy(l []api.Op) []api.Op {
	var ops []api.Op
	for _, o := range l {
		o = anew(o)
		o.Preds = append(slices.Clone(o.Preds), id(77, "room"), id(78, "room"))[:len(o.Preds)]
		ops = append(ops, o)
	}
	return append(ops, api.Op{Key: "room", Preds: row(2)}, api.Op{})[:len(l)]
}

// roomOf tells a test that ops, or their spare room, aren't as roomy made them any more.
func roomOf(t *testing.T, given, want []api.Op) {
	t.Helper()
	behind := given[: len(given)+1 : len(given)+1][len(given)]
	if !alike(given, want) || !plainSame(behind, api.Op{Key: "room", Preds: row(2)}) {
		t.Errorf("what was handed in became %s, with %s behind it", brief(given), brief(behind))
	}
	for _, o := range given {
		n := len(o.Preds)
		if !slices.Equal(o.Preds[n:n+2], []api.OpId{id(77, "room"), id(78, "room")}) {
			t.Errorf("behind names that were handed in stands %s", brief(o.Preds[n:n+2]))
		}
	}
}

// TestMemory holds that what is handed in isn't changed or kept, spare room included, and that answers share no memory.
func TestMemory(t *testing.T) {
	for _, want := range [][]api.Op{rightOps(), wrongOps(), {}, {{Preds: row(3)}, {Preds: row(3)}}} {
		names := plainNames(want)
		given := roomy(want)
		first, firstNames := op.Copy(given...), op.Names(given...)
		op.Right(given...)
		for _, o := range given {
			op.Same(o, o)
		}
		spoil(op.Copy(given...))
		spoilIds(op.Names(given...))
		roomOf(t, given, want)
		spoil(given)
		if !alike(first, want) || !slices.Equal(firstNames, names) {
			t.Errorf("answers became %s and %s", brief(first), brief(firstNames))
		}
		for i := range first { // one list of an answer, behind those that are spoilt already
			if !plainSame(first[i], want[i]) {
				t.Errorf("a list of an answer shares memory with an earlier one: %s", brief(first[i]))
			}
			spoilIds(first[i].Preds)
		}
		for i := len(first) - 1; i > 0; i-- {
			first[i-1].Preds = append(first[i-1].Preds, id(55, "grown"))
			spoilIds(first[i].Preds)
			if p := first[i-1].Preds; p[len(p)-1] != id(55, "grown") {
				t.Error("a list of an answer shares memory with a later one")
			}
		}
	}
}

// textsOf answers all texts of ops.
func textsOf(l []api.Op) []string {
	var texts []string
	for _, o := range l {
		texts = append(texts, o.Obj.Actor, o.Key, o.Elem.Actor, o.Val.S)
		for _, x := range o.Preds {
			texts = append(texts, x.Actor)
		}
	}
	return texts
}

// TestTextsAreNew holds that no answer keeps a text that was handed in, of which it may be a piece.
func TestTextsAreNew(t *testing.T) {
	long := strings.Repeat("abcdefgh", 1000)
	given := []api.Op{
		{Obj: id(1, long[:5]), Elem: id(2, long[1:9]), Val: text(long[5:99]), Preds: []api.OpId{id(1, long[3:4]), id(2, long[8:24])}},
		{Obj: id(1, long[7:9]), Keyed: true, Key: long[9:2000]},
	}
	answers := textsOf(op.Copy(given...))
	for _, x := range op.Names(given...) {
		answers = append(answers, x.Actor)
	}
	from := uintptr(unsafe.Pointer(unsafe.StringData(long)))
	for _, s := range answers {
		at := uintptr(unsafe.Pointer(unsafe.StringData(s)))
		if s != "" && at >= from && at < from+uintptr(len(long)) {
			t.Errorf("%s is a piece of what was handed in", brief(s))
		}
	}
}
