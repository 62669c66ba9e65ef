package lz_test

import (
	"bytes"
	"math"
	"math/rand/v2"
	"slices"
	"strings"
	"testing"

	"inkwell/api"
	"inkwell/lz"
)

// lits answers the literals of bytes.
func lits(s string) []api.Token {
	var l []api.Token
	for _, c := range []byte(s) {
		l = append(l, api.Token{Byte: c})
	}
	return l
}

// match answers a match as a list of one token.
func match(length, distance int) []api.Token {
	return []api.Token{{Length: length, Distance: distance}}
}

// row answers all that lists hold, one behind the other.
func row(l ...[]api.Token) []api.Token {
	return slices.Concat(l...)
}

// plainPress presses by the chapter's words: all distances that may be, at each place, from the greatest on.
func plainPress(b []byte) []api.Token {
	var l []api.Token
	for at := 0; at < len(b); {
		best, distance := 0, 0
		for d := min(at, 32768); d > 0; d-- {
			n := 0
			for n < 258 && at+n < len(b) && b[at+n] == b[at+n-d] {
				n++
			}
			if n >= best {
				best, distance = n, d
			}
		}
		if best >= 3 {
			l = append(l, api.Token{Length: best, Distance: distance})
			at += best
		} else {
			l = append(l, api.Token{Byte: b[at]})
			at++
		}
	}
	return l
}

// plainRight answers what the chapter says of a token behind n bytes.
func plainRight(t api.Token, n int) bool {
	literal := t.Length == 0 && t.Distance == 0
	match := t.Byte == 0 && 3 <= t.Length && t.Length <= 258 && 1 <= t.Distance && t.Distance <= 32768
	return literal || match && t.Distance <= n
}

// plainOpen opens by the chapter's words, with room for all from the first token on.
func plainOpen(most int, tokens []api.Token) ([]byte, api.Errno) {
	room := make([]byte, 258*len(tokens))
	n := 0
	for _, t := range tokens {
		if !plainRight(t, n) {
			return nil, api.ErrForm
		}
		k := 1
		room[n] = t.Byte
		if t.Length > 0 {
			k = t.Length
			for i := n; i < n+k; i++ {
				room[i] = room[i-t.Distance]
			}
		}
		n += k
		if n > most {
			return nil, api.ErrLong
		}
	}
	return room[:n], api.OK
}

// drawn answers n bytes of so many kinds, drawn.
func drawn(r *rand.Rand, n, kinds int) []byte {
	b := make([]byte, n)
	for i := range b {
		b[i] = byte(r.IntN(kinds))
	}
	return b
}

// unlike answers n bytes of which no three that stand side by side are met twice, none of them 0.
func unlike(n int) []byte {
	// Numbers that count up, each as three bytes of which none can be at another's place.
	var b []byte
	for i := 0; len(b) < n; i++ {
		b = append(b, byte(1+i>>13%63), byte(64+i>>7%64), byte(128+i%128))
	}
	return b[:n]
}

// some answers the first tokens from a place on.
func some(l []api.Token, from int) []api.Token {
	return l[min(len(l), from):min(len(l), from+5)]
}

// check holds what Press answers against the chapter's words, and opens it again.
func check(t *testing.T, b []byte) {
	t.Helper()
	l := lz.Press(b)
	want := plainPress(b)
	for i := range max(len(l), len(want)) {
		if i >= min(len(l), len(want)) || l[i] != want[i] {
			t.Fatalf("Press of %d bytes that begin with %v: from %d on it tells %v, want %v", len(b), b[:min(len(b), 20)], i, some(l, i), some(want, i))
		}
	}
	back, e := lz.Open(len(b), l...)
	if !bytes.Equal(back, b) || e != api.OK {
		t.Fatalf("Open of what %d bytes that begin with %v were pressed to: %d bytes, %d", len(b), b[:min(len(b), 20)], len(back), e)
	}
}

func TestConstants(t *testing.T) {
	if lz.Least != 3 || lz.Most != 258 || lz.Back != 32768 {
		t.Errorf("Least %d, Most %d, Back %d", lz.Least, lz.Most, lz.Back)
	}
}

func TestPress(t *testing.T) {
	for _, c := range []struct {
		name string
		b    string
		want []api.Token
	}{
		{"the chapter's example", "aaaa", row(lits("a"), match(3, 1))},
		{"nothing", "", nil},
		{"one byte", "a", lits("a")},
		{"three of one kind: two are left for a match", "aaa", lits("aaa")},
		{"two bytes are no match", "abxab", lits("abxab")},
		{"three are one", "abcxabc", row(lits("abcx"), match(3, 4))},
		{"three, and another byte behind", "abcxabcy", row(lits("abcx"), match(3, 4), lits("y"))},
		{"side by side", "abcabc", row(lits("abc"), match(3, 3))},
		{"a match that goes on in itself", "abababab", row(lits("ab"), match(6, 2))},
		{"the nearer of two that are equally long", "abcxabcyabc", row(lits("abcx"), match(3, 4), lits("y"), match(3, 4))},
		{"the farther one, if it is longer", "abcdxabcyabcd", row(lits("abcdx"), match(3, 5), lits("y"), match(4, 9))},
		{"the nearer one, if it is longer", "abcxabcdyabcd", row(lits("abcx"), match(3, 4), lits("dy"), match(4, 5))},
		{"one doesn't wait for a longer one", "abcbcdexabcde", row(lits("abcbcdex"), match(3, 8), lits("de"))},
		{"places within a match count", "abababxbab", row(lits("ab"), match(4, 2), lits("x"), match(3, 4))},
		{"the end cuts a match", "abcdxabc", row(lits("abcdx"), match(3, 5))},
		{"cut to one length the nearer one counts", "abcdxabcyabc", row(lits("abcdx"), match(3, 5), lits("y"), match(3, 4))},
		{"257 behind the first", strings.Repeat("a", 258), row(lits("a"), match(257, 1))},
		{"258 behind the first", strings.Repeat("a", 259), row(lits("a"), match(258, 1))},
		{"259 behind the first", strings.Repeat("a", 260), row(lits("a"), match(258, 1), lits("a"))},
		{"260 behind the first", strings.Repeat("a", 261), row(lits("a"), match(258, 1), lits("aa"))},
		{"261 behind the first", strings.Repeat("a", 262), row(lits("a"), match(258, 1), match(3, 1))},
		{"bytes of all kinds", "\x00\xff\x80\x00\xff\x80\x00", row(lits("\x00\xff\x80"), match(4, 3))},
	} {
		if l := lz.Press([]byte(c.b)); !slices.Equal(l, c.want) {
			t.Errorf("%s: Press(%.40q) = %v, want %v", c.name, c.b, l, c.want)
		}
		check(t, []byte(c.b))
	}
}

func TestPressManyAlike(t *testing.T) {
	u := string(unlike(300))
	for _, c := range []struct {
		name string
		b    string
		want []api.Token
	}{
		{"258 near by, 300 farther back", u + "\x00" + u[:258] + "\x02" + u,
			row(match(258, 301), lits("\x02"), match(258, 259), match(42, 300+1+258+1))},
		{"257 near by, 300 farther back", u + "\x00" + u[:257] + "\x02" + u,
			row(match(257, 301), lits("\x02"), match(258, 300+1+257+1), match(42, 300+1+257+1))},
		{"300 twice", u + "\x00" + u + "\x02" + u,
			row(match(258, 301), match(42, 301), lits("\x02"), match(258, 301), match(42, 301))},
	} {
		l := lz.Press([]byte(c.b))
		if behind := l[min(len(l), 301):]; !slices.Equal(behind, c.want) {
			t.Errorf("%s: behind the first 301 Press tells %v, want %v", c.name, behind, c.want)
		}
		check(t, []byte(c.b))
	}
}

func TestPressFarBack(t *testing.T) {
	for _, c := range []struct {
		name  string
		apart []int // how far each needle is from the one ahead of it
		want  []api.Token
	}{
		{"as far as may be", []int{32768}, match(3, 32768)},
		{"one byte less", []int{32767}, match(3, 32767)},
		{"one byte too far", []int{32769}, lits("\x00\x00\x00")},
		{"much too far", []int{65536}, lits("\x00\x00\x00")},
		{"one too far, one near", []int{20000, 20000}, match(3, 20000)},
		{"two that are near", []int{10000, 20000}, match(3, 20000)},
		{"as far as may be, behind one too far", []int{7, 32768}, match(3, 32768)},
	} {
		all := 0
		for _, n := range c.apart {
			all += n
		}
		b := unlike(all + 3)
		at := 0
		for _, n := range append([]int{0}, c.apart...) {
			at += n
			copy(b[at:], "\x00\x00\x00")
		}
		l := lz.Press(b)
		if l = l[max(0, len(l)-len(c.want)):]; !slices.Equal(l, c.want) {
			t.Errorf("%s: Press ends with %v, want %v", c.name, l, c.want)
		}
	}
}

func TestPressAllShortTexts(t *testing.T) {
	for _, c := range []struct{ kinds, most int }{{2, 14}, {3, 9}, {4, 7}} {
		for n := 0; n <= c.most; n++ {
			b := make([]byte, n)
			for more := true; more; {
				check(t, b)
				more = false
				for i := range b {
					if b[i]++; int(b[i]) < c.kinds {
						more = true
						break
					}
					b[i] = 0
				}
			}
		}
	}
}

func TestPressDrawn(t *testing.T) {
	r := rand.New(rand.NewPCG(6, 1))
	for range 300 {
		check(t, drawn(r, r.IntN(1500), 1+r.IntN(12)))
	}
	for _, kinds := range []int{2, 3, 30} { // beyond as far back as may be
		check(t, drawn(r, 45000, kinds))
	}
	for range 20 { // pieces that come again, with edges at as many places as there are
		var b []byte
		piece := drawn(r, 400, 256)
		for len(b) < 8000 {
			from := r.IntN(len(piece))
			b = append(b, piece[from:from+r.IntN(len(piece)-from+1)]...)
		}
		check(t, b)
	}
}

func TestPressOfMuch(t *testing.T) {
	r := rand.New(rand.NewPCG(6, 2))
	const n = 1 << 20
	same := make([]byte, n)
	seldom := make([]byte, n)
	for i := range seldom {
		if r.IntN(100) == 0 {
			seldom[i] = 1 + byte(r.IntN(255))
		}
	}
	for name, b := range map[string][]byte{"one byte": same, "bytes that are seldom others": seldom, "bytes drawn": drawn(r, n, 256), "four bytes drawn": drawn(r, n, 4)} {
		back, e := lz.Open(n, lz.Press(b)...)
		if !bytes.Equal(back, b) || e != api.OK {
			t.Errorf("%s: %d bytes, %d", name, len(back), e)
		}
	}
	if l := lz.Press(same); len(l) != 1+(n-1)/258+1 || l[1] != match(258, 1)[0] || l[len(l)-1] != match((n-1)%258, 1)[0] {
		t.Errorf("Press of one byte, often: %d tokens, that end with %v", len(l), l[len(l)-1])
	}
}

// numbers are those at which something changes, and some that are far off.
var numbers = []int{math.MinInt, -32768, -258, -3, -1, 0, 1, 2, 3, 4, 257, 258, 259, 32767, 32768, 32769, 65536, math.MaxInt - 1, math.MaxInt}

func TestRight(t *testing.T) {
	for _, c := range []struct {
		name string
		t    api.Token
		n    int
		want bool
	}{
		{"a literal, behind nothing", api.Token{Byte: 'a'}, 0, true},
		{"the literal 0", api.Token{}, 0, true},
		{"the literal 255, behind many", api.Token{Byte: 255}, 1 << 30, true},
		{"a literal from a distance", api.Token{Byte: 'a', Distance: 1}, 9, false},
		{"a match with a byte", api.Token{Byte: 'a', Length: 3, Distance: 1}, 9, false},
		{"a match of two", api.Token{Length: 2, Distance: 1}, 9, false},
		{"a match of three", api.Token{Length: 3, Distance: 1}, 9, true},
		{"a match of 258", api.Token{Length: 258, Distance: 1}, 9, true},
		{"a match of 259", api.Token{Length: 259, Distance: 1}, 9, false},
		{"from no distance", api.Token{Length: 3}, 9, false},
		{"from the first byte", api.Token{Length: 3, Distance: 9}, 9, true},
		{"from ahead of the first byte", api.Token{Length: 3, Distance: 10}, 9, false},
		{"behind nothing", api.Token{Length: 3, Distance: 1}, 0, false},
		{"from as far as may be", api.Token{Length: 3, Distance: 32768}, 32768, true},
		{"from farther", api.Token{Length: 3, Distance: 32769}, 1 << 30, false},
		{"a length below none", api.Token{Length: -1}, 9, false},
	} {
		if ok := lz.Right(c.t, c.n); ok != c.want {
			t.Errorf("%s: Right(%v, %d) = %v", c.name, c.t, c.n, ok)
		}
	}
	for _, length := range numbers {
		for _, distance := range numbers {
			for _, c := range []byte{0, 1, 255} {
				for _, n := range numbers {
					token := api.Token{Byte: c, Length: length, Distance: distance}
					if ok := lz.Right(token, n); n >= 0 && ok != plainRight(token, n) {
						t.Fatalf("Right(%v, %d) = %v", token, n, ok)
					}
				}
			}
		}
	}
}

func TestAdd(t *testing.T) {
	for _, c := range []struct {
		name string
		b    string
		t    api.Token
		want string
	}{
		{"a literal behind nothing", "", api.Token{Byte: 'a'}, "a"},
		{"the literal 0", "ab", api.Token{}, "ab\x00"},
		{"a match", "abcd", api.Token{Length: 3, Distance: 4}, "abcdabc"},
		{"of the last bytes", "abcd", api.Token{Length: 3, Distance: 3}, "abcdbcd"},
		{"that goes on in itself", "ab", api.Token{Length: 5, Distance: 2}, "abababa"},
		{"of the last byte", "ab", api.Token{Length: 3, Distance: 1}, "abbbb"},
		{"as long as may be", "ab", api.Token{Length: 258, Distance: 2}, strings.Repeat("ab", 130)},
	} {
		for room := range 300 {
			b := append(make([]byte, 0, len(c.b)+room), c.b...)
			if got := lz.Add(b, c.t); string(got) != c.want {
				t.Fatalf("%s, room for %d: Add = %q, want %q", c.name, room, got, c.want)
			}
			if string(b) != c.b {
				t.Fatalf("%s, room for %d: what was ahead is %q", c.name, room, b)
			}
		}
	}
}

func TestAddFarBack(t *testing.T) {
	b := unlike(32768)
	got := lz.Add(slices.Clip(b), api.Token{Length: 258, Distance: 32768})
	if !bytes.Equal(got, append(slices.Clip(b), b[:258]...)) {
		t.Errorf("Add from 32768 ahead: %d bytes, that end with %v", len(got), got[len(got)-9:])
	}
}

func TestAddOfWhatMayNotStandEnds(t *testing.T) {
	for _, length := range numbers {
		for _, distance := range numbers {
			for _, b := range [][]byte{nil, []byte("a"), []byte("abc")} {
				lz.Add(b, api.Token{Byte: 'x', Length: length, Distance: distance})
				lz.Add(b, api.Token{Length: length, Distance: distance})
			}
		}
	}
}

func TestOpen(t *testing.T) {
	for _, c := range []struct {
		name   string
		most   int
		tokens []api.Token
		want   string
		e      api.Errno
	}{
		{"nothing", 0, nil, "", api.OK},
		{"nothing, and less may be", -1, nil, "", api.OK},
		{"a literal", 1, lits("a"), "a", api.OK},
		{"a literal, and none may be", 0, lits("a"), "", api.ErrLong},
		{"a literal, and less may be", math.MinInt, lits("a"), "", api.ErrLong},
		{"as many as may be", 7, row(lits("abc"), match(3, 3), lits("d")), "abcabcd", api.OK},
		{"any number may be", math.MaxInt, row(lits("ab"), match(258, 2)), strings.Repeat("ab", 130), api.OK},
		{"one more, the last token", 6, row(lits("abc"), match(3, 3), lits("d")), "", api.ErrLong},
		{"one more, in a match", 5, row(lits("abc"), match(3, 3), lits("d")), "", api.ErrLong},
		{"a match behind nothing", 9, match(3, 1), "", api.ErrForm},
		{"a match from ahead of the first byte", 9, row(lits("ab"), match(3, 3)), "", api.ErrForm},
		{"a match from the first byte", 9, row(lits("ab"), match(3, 2)), "ababa", api.OK},
		{"a match of what a match told", 9, row(lits("a"), match(3, 1), match(4, 4)), "aaaaaaaa", api.OK},
		{"a match of two", 9, row(lits("ab"), match(2, 1)), "", api.ErrForm},
		{"a match of 259", 999, row(lits("ab"), match(259, 1)), "", api.ErrForm},
		{"a match from no distance", 9, row(lits("ab"), match(3, 0)), "", api.ErrForm},
		{"a match with a byte", 9, row(lits("ab"), []api.Token{{Byte: 1, Length: 3, Distance: 1}}), "", api.ErrForm},
		{"a literal from a distance", 9, row(lits("ab"), []api.Token{{Byte: 1, Distance: 1}}), "", api.ErrForm},
		{"too long, and it may not stand", 2, row(lits("ab"), match(3, 3)), "", api.ErrForm},
		{"too long ahead of one that may not stand", 1, row(lits("ab"), match(3, 3)), "", api.ErrLong},
		{"one that may not stand ahead of what is too long", 3, row(lits("ab"), match(3, 3), lits("abc")), "", api.ErrForm},
		{"lengths that are no numbers of bytes", 9, row(lits("ab"), match(math.MaxInt, 1)), "", api.ErrForm},
		{"below none", 9, row(lits("ab"), match(-3, 1)), "", api.ErrForm},
		{"and none", 9, row(lits("ab"), match(math.MinInt, math.MinInt)), "", api.ErrForm},
	} {
		b, e := lz.Open(c.most, c.tokens...)
		if string(b) != c.want || e != c.e {
			t.Errorf("%s: Open = %q, %d, want %q, %d", c.name, b, e, c.want, c.e)
		}
		if e != api.OK && b != nil {
			t.Errorf("%s: bytes beside an error", c.name)
		}
	}
}

func TestOpenFarBack(t *testing.T) {
	u := unlike(32769)
	for _, c := range []struct {
		n, distance int
		e           api.Errno
	}{{32769, 32768, api.OK}, {32769, 32769, api.ErrForm}, {32768, 32768, api.OK}, {32767, 32768, api.ErrForm}} {
		b, e := lz.Open(1<<20, row(lits(string(u[:c.n])), match(9, c.distance))...)
		if e != c.e || e == api.OK && !bytes.Equal(b, append(slices.Clip(u[:c.n]), u[c.n-c.distance:c.n-c.distance+9]...)) {
			t.Errorf("%d from %d: %d bytes, %d", c.n, c.distance, len(b), e)
		}
	}
}

func TestOpenDrawn(t *testing.T) {
	r := rand.New(rand.NewPCG(6, 3))
	seen := map[api.Errno]int{}
	for range 20000 {
		var tokens []api.Token
		for range r.IntN(12) {
			token := api.Token{Byte: byte(r.IntN(256))}
			if r.IntN(3) == 0 {
				token = api.Token{Length: 3 + r.IntN(20), Distance: 1 + r.IntN(1+len(tokens)+r.IntN(2))}
			}
			if r.IntN(60) == 0 {
				token.Distance = r.IntN(3)
			}
			tokens = append(tokens, token)
		}
		most := r.IntN(120)
		b, e := lz.Open(most, tokens...)
		want, wantE := plainOpen(most, tokens)
		if !bytes.Equal(b, want) || e != wantE {
			t.Fatalf("Open(%d, %v) = %v, %d, want %v, %d", most, tokens, b, e, want, wantE)
		}
		seen[e]++
	}
	for _, e := range []api.Errno{api.OK, api.ErrForm, api.ErrLong} {
		if seen[e] < 500 {
			t.Errorf("%d was answered but %d times", e, seen[e])
		}
	}
}

func TestWhatIsPressedMayStand(t *testing.T) {
	r := rand.New(rand.NewPCG(6, 4))
	for range 50 {
		b := drawn(r, r.IntN(3000), 1+r.IntN(20))
		n := 0
		var back []byte
		for _, token := range lz.Press(b) {
			if !lz.Right(token, n) {
				t.Fatalf("Press(%v) tells %v behind %d bytes", b, token, n)
			}
			n += max(1, token.Length)
			back = lz.Add(back, token)
		}
		if !bytes.Equal(back, b) {
			t.Fatalf("Press(%v), added token by token, is %v", b, back)
		}
	}
}

func TestHandedInStays(t *testing.T) {
	whole := []byte("abcabcabcabcxyz")
	kept := slices.Clone(whole)
	l := lz.Press(whole[:9])
	if !bytes.Equal(whole, kept) {
		t.Errorf("Press changed what was handed in: %q", whole)
	}
	for i := range whole {
		whole[i] = 'q'
	}
	if want := row(lits("abc"), match(6, 3)); !slices.Equal(l, want) {
		t.Errorf("Press's answer changed with what was handed in: %v", l)
	}
	tokens := row(lits("abc"), match(3, 3), lits("zzz"))
	before := slices.Clone(tokens)
	b, _ := lz.Open(99, tokens[:4]...)
	if !slices.Equal(tokens, before) {
		t.Errorf("Open changed what was handed in: %v", tokens)
	}
	clear(tokens)
	if string(b) != "abcabc" {
		t.Errorf("Open's answer changed with what was handed in: %q", b)
	}
}

func TestHandedOutIsNew(t *testing.T) {
	b := []byte("abcabcabc")
	first := lz.Press(b)
	second := lz.Press(b)
	clear(first[:cap(first)])
	if want := row(lits("abc"), match(6, 3)); !slices.Equal(second, want) || !slices.Equal(lz.Press(b), want) {
		t.Errorf("two answers of Press share memory: %v", second)
	}
	tokens := row(lits("abc"), match(6, 3))
	one, _ := lz.Open(9, tokens...)
	two, _ := lz.Open(9, tokens...)
	clear(one[:cap(one)])
	three, _ := lz.Open(9, tokens...)
	if string(two) != "abcabcabc" || string(three) != "abcabcabc" {
		t.Errorf("two answers of Open share memory: %q, %q", two, three)
	}
}

// FuzzPress opens whatever is pressed.
func FuzzPress(f *testing.F) {
	f.Add([]byte("aaaa"))
	f.Fuzz(func(t *testing.T, b []byte) { check(t, b) })
}
