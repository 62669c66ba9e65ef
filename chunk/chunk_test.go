package chunk_test

import (
	"bytes"
	"compress/flate"
	"crypto/sha256"
	"fmt"
	"io"
	"math"
	"math/rand/v2"
	"slices"
	"sort"
	"strings"
	"testing"

	"inkwell/api"
	"inkwell/body"
	"inkwell/chunk"
	"inkwell/deflate"
	"inkwell/inflate"
	"inkwell/leb"
)

const magic = "\x85\x6f\x4a\x83"

// brief answers what is told of anything, but its middle, if it is long.
func brief(x any) string {
	s := fmt.Sprintf("%x", x)
	if len(s) <= 400 {
		return s
	}
	return s[:200] + " .. " + s[len(s)-200:]
}

// of answers a chunk.
func of(kind int, content string) chunk.Chunk {
	return chunk.Chunk{Kind: kind, Content: []byte(content)}
}

// same tells whether two chunks are alike.
func same(a, b chunk.Chunk) bool {
	return a.Kind == b.Kind && bytes.Equal(a.Content, b.Content)
}

// drawn answers n drawn bytes, so many of them.
func drawn(rnd *rand.Rand, n, letters int) []byte {
	b := make([]byte, n)
	for i := range b {
		b[i] = byte(rnd.IntN(letters))
	}
	return b
}

// summed answers bytes that begin as a chunk does, with the sum of these.
func summed(b string) string {
	h := sha256.Sum256([]byte(b))
	return magic + string(h[:4]) + b
}

// plainPut answers by the chapter's words the bytes of chunks.
func plainPut(l ...chunk.Chunk) string {
	var b strings.Builder
	for _, c := range l {
		b.WriteString(summed(string(rune(c.Kind)) + string(leb.U(uint64(len(c.Content)))) + string(c.Content)))
	}
	return b.String()
}

// plainPack answers by the chapter's words a body's chunk.
func plainPack(b string) chunk.Chunk {
	pressed := deflate.Press([]byte(b))
	if len(b) < 256 || len(pressed) >= len(b) {
		return of(1, b)
	}
	return of(2, string(pressed))
}

// plainOpen answers by the chapter's words the body whose chunk it is.
func plainOpen(c chunk.Chunk) (string, api.Errno) {
	b := string(c.Content)
	if c.Kind == 2 {
		opened, err := io.ReadAll(io.LimitReader(flate.NewReader(strings.NewReader(b)), 1<<20+1))
		if err != nil || len(opened) > 1<<20 {
			return "", api.ErrFlate
		}
		b = string(opened)
	}
	if !same(plainPack(b), c) {
		return "", api.ErrFlate
	}
	return b, api.OK
}

// plainNext answers by the chapter's words the chunk that bytes begin with.
func plainNext(b string) (chunk.Chunk, int, api.Errno) {
	none := chunk.Chunk{}
	for i := range min(4, len(b)) {
		if b[i] != magic[i] {
			return none, 0, api.ErrMagic
		}
	}
	if len(b) < 9 {
		return none, 0, api.ErrShort
	}
	if b[8] != 1 && b[8] != 2 {
		return none, 0, api.ErrType
	}
	n, k, e := leb.GetU([]byte(b[9:]))
	if e != api.OK {
		return none, 0, e
	}
	if n > 1048576 {
		return none, 0, api.ErrLong
	}
	if uint64(len(b)-9-k) < n {
		return none, 0, api.ErrShort
	}
	end := 9 + k + int(n)
	if summed(b[8:end]) != b[:end] {
		return none, 0, api.ErrSum
	}
	return of(int(b[8]), b[9+k:end]), end, api.OK
}

// nexts tells a test that bytes aren't read as they should be; bytes behind them, in spare room, count for nothing.
func nexts(t *testing.T, b string, want chunk.Chunk, n int, e api.Errno) {
	t.Helper()
	room := []byte(b + "\x01\x00abc")
	c, k, x := chunk.Next(room[:len(b)])
	if !same(c, want) || k != n || x != e {
		t.Errorf("Next(%s) = %s, %d, %d; want %s, %d, %d", brief(b), brief(c), k, x, brief(want), n, e)
	}
}

// refused tells a test that bytes aren't refused with such an error.
func refused(t *testing.T, b string, e api.Errno) {
	t.Helper()
	nexts(t, b, chunk.Chunk{}, 0, e)
}

// agrees tells a test that bytes aren't read as the chapter has it, and answers the error.
func agrees(t *testing.T, b string) api.Errno {
	t.Helper()
	c, n, e := plainNext(b)
	nexts(t, b, c, n, e)
	return e
}

// opens tells a test that a chunk isn't opened as it should be.
func opens(t *testing.T, c chunk.Chunk, want string, e api.Errno) {
	t.Helper()
	b, x := chunk.Open(c)
	if string(b) != want || x != e {
		t.Errorf("Open(%s) = %s, %d; want %s, %d", brief(c), brief(b), x, brief(want), e)
	}
}

// packs tells a test that a body's chunk isn't of that kind, or another one than the chapter has, or isn't opened as the body; it answers the chunk.
func packs(t *testing.T, b string, kind int) chunk.Chunk {
	t.Helper()
	c := chunk.Pack([]byte(b))
	if want := plainPack(b); c.Kind != kind || !same(c, want) {
		t.Errorf("Pack(%s) = %s; want %s, of the kind %d", brief(b), brief(c), brief(want), kind)
	}
	opens(t, c, b, api.OK)
	return c
}

func TestNames(t *testing.T) {
	if chunk.Plain != 1 || chunk.Pressed != 2 {
		t.Errorf("the kinds are %d and %d", chunk.Plain, chunk.Pressed)
	}
}

// TestByHand holds bytes whose sums another program told.
func TestByHand(t *testing.T) {
	for _, x := range []struct {
		c chunk.Chunk
		b string
	}{
		{of(1, ""), magic + "\x47\xdc\x54\x0c\x01\x00"},
		{of(2, ""), magic + "\x99\xbe\x5e\xfb\x02\x00"},
		{of(1, "hi"), magic + "\xba\x51\x67\xaa\x01\x02hi"},
		{of(2, "\x03\x00"), magic + "\x09\x71\x18\xa7\x02\x02\x03\x00"},
		{of(1, "\x00\x01a\x01\x01\x00\x00\x00\x00"), magic + "\x20\x4c\xab\xec\x01\x09\x00\x01a\x01\x01\x00\x00\x00\x00"},
	} {
		if b := chunk.Put(x.c); string(b) != x.b {
			t.Errorf("Put(%s) = %s; want %s", brief(x.c), brief(b), brief(x.b))
		}
		nexts(t, x.b, x.c, len(x.b), api.OK)
	}
}

// TestPut holds both kinds, at the edges of how many bytes a length has, alone and one behind the other.
func TestPut(t *testing.T) {
	if b := chunk.Put(); len(b) != 0 {
		t.Errorf("Put of none: %x", b)
	}
	rnd := rand.New(rand.NewPCG(22, 1))
	var l []chunk.Chunk
	for _, n := range []int{0, 1, 2, 127, 128, 255, 256, 16383, 16384, 1<<20 - 1, 1 << 20} {
		for kind := 1; kind <= 2; kind++ {
			l = append(l, of(kind, string(drawn(rnd, n, 256))))
		}
	}
	for _, c := range l {
		b := plainPut(c)
		if string(chunk.Put(c)) != b {
			t.Errorf("Put(%s) = %s; want %s", brief(c), brief(chunk.Put(c)), brief(b))
		}
		nexts(t, b, c, len(b), api.OK)
		nexts(t, b+"behind", c, len(b), api.OK)
		nexts(t, b+magic, c, len(b), api.OK)
	}
	all := chunk.Put(l...)
	if string(all) != plainPut(l...) {
		t.Error("Put of many isn't that of each")
	}
	for _, want := range l {
		c, n, e := chunk.Next(all)
		if !same(c, want) || e != api.OK || n != len(plainPut(want)) {
			t.Fatalf("Next = %s, %d, %d; want %s", brief(c), n, e, brief(want))
		}
		all = all[n:]
	}
	refused(t, string(all), api.ErrShort)
}

// TestSumIsHashs holds that a plain chunk's sum begins the hash of the change whose bytes are its content.
func TestSumIsHashs(t *testing.T) {
	for _, s := range []string{"", "a", strings.Repeat("a", 300)} {
		h := body.HashOf([]byte(s))
		if b := chunk.Put(of(1, s)); string(b[4:8]) != string(h[:4]) {
			t.Errorf("the sum is %x, the hash %x", b[4:8], h)
		}
	}
}

// TestPackAtEdges holds which bodies are pressed.
func TestPackAtEdges(t *testing.T) {
	rnd := rand.New(rand.NewPCG(22, 2))
	for _, n := range []int{0, 1, 2, 100, 254, 255} {
		packs(t, strings.Repeat("a", n), 1)
		packs(t, string(drawn(rnd, n, 256)), 1)
	}
	for _, n := range []int{256, 257, 1000, 65535, 65536, 100000} {
		packs(t, strings.Repeat("a", n), 2)
		packs(t, string(drawn(rnd, n, 128)), 2)
		packs(t, string(drawn(rnd, n, 256)), 1)
	}
}

// with answers a body of n bytes that has so many more of them when it is pressed.
func with(t *testing.T, rnd *rand.Rand, n, more int) string {
	t.Helper()
	for range 1000 {
		b := drawn(rnd, n, 256)
		begun := func(zeros int) []byte { return append(make([]byte, zeros), b[zeros:]...) }
		longer := func(zeros int) int { return len(deflate.Press(begun(zeros))) - n }
		zeros := sort.Search(n, func(zeros int) bool { return longer(zeros) <= more })
		if longer(zeros) == more {
			return string(begun(zeros))
		}
	}
	t.Fatalf("no body of %d bytes has %d more when it is pressed", n, more)
	return ""
}

// TestPackByOneByte holds that a body is pressed if it is shorter then, be it by one byte, and else isn't.
func TestPackByOneByte(t *testing.T) {
	rnd := rand.New(rand.NewPCG(22, 3))
	for _, n := range []int{256, 257, 300, 1000} {
		for _, more := range []int{-2, -1} {
			b := with(t, rnd, n, more)
			packs(t, b, 2)
			opens(t, of(1, b), "", api.ErrFlate)
		}
		for _, more := range []int{0, 1, 5} {
			b := with(t, rnd, n, more)
			packs(t, b, 1)
			opens(t, of(2, string(deflate.Press([]byte(b)))), "", api.ErrFlate)
		}
	}
}

// TestPackBeyondBodies holds bodies that are longer than a change's may be: chunks all the same, of which pressed ones are opened as none.
func TestPackBeyondBodies(t *testing.T) {
	rnd := rand.New(rand.NewPCG(22, 4))
	packs(t, string(drawn(rnd, 1<<20+1, 256)), 1)
	for _, n := range []int{1<<20 + 1, 1 << 21} {
		long := strings.Repeat("a", n)
		c := chunk.Pack([]byte(long))
		if !same(c, plainPack(long)) || c.Kind != 2 {
			t.Errorf("Pack of %d bytes: %s", n, brief(c))
		}
		opens(t, c, "", api.ErrFlate)
		opens(t, of(1, long), "", api.ErrFlate)
	}
}

func TestPackDrawn(t *testing.T) {
	rnd := rand.New(rand.NewPCG(22, 5))
	met := map[int]int{}
	for range 2000 {
		b := string(drawn(rnd, rnd.IntN(600), 1+rnd.IntN(256)))
		c := plainPack(b)
		packs(t, b, c.Kind)
		met[c.Kind]++
		raw := plainPut(c)
		if string(chunk.Put(c)) != raw {
			t.Errorf("Put(%s) = %s; want %s", brief(c), brief(chunk.Put(c)), brief(raw))
		}
		nexts(t, raw, c, len(raw), api.OK)
		if t.Failed() {
			return
		}
	}
	if met[1] < 500 || met[2] < 500 {
		t.Errorf("met: %v", met)
	}
}

// ways answers chunks that tell a body, each in another way, its own one perhaps among them.
func ways(b []byte) []chunk.Chunk {
	fixed, _ := deflate.Fixed(b)
	dynamic, _ := deflate.Dynamic(b)
	l := []chunk.Chunk{of(1, string(b)), of(2, string(fixed)), of(2, string(dynamic)), of(2, string(deflate.Stored(b))), of(2, string(deflate.Press(b)))}
	for level := flate.HuffmanOnly; level <= flate.BestCompression; level++ {
		var pressed bytes.Buffer
		w, _ := flate.NewWriter(&pressed, level)
		w.Write(b)
		w.Close()
		l = append(l, of(2, pressed.String()))
	}
	empty := "\x00\x00\x00\xff\xff"
	return append(l, of(2, empty+string(deflate.Press(b))), of(2, string(deflate.Press(b))+"\x00"), of(2, string(deflate.Press(b))+string(deflate.Press(nil))))
}

// TestOneChunkAlone holds that of all the ways in which a body can be told one alone is opened.
func TestOneChunkAlone(t *testing.T) {
	rnd := rand.New(rand.NewPCG(22, 6))
	bodies := []string{"", "a", strings.Repeat("a", 255), strings.Repeat("a", 256), strings.Repeat("a", 5000), strings.Repeat("abcdefgh", 9000)}
	for i := range 100 {
		bodies = append(bodies, string(drawn(rnd, rnd.IntN(1000), 1+i*5%256)))
	}
	for _, b := range bodies {
		own := plainPack(b)
		for _, c := range ways([]byte(b)) {
			if same(c, own) {
				opens(t, c, b, api.OK)
			} else {
				opens(t, c, "", api.ErrFlate)
			}
		}
		if t.Failed() {
			return
		}
	}
}

// TestOpenOfPressedWrongly holds contents that can't be opened, or have too few, too many, or other bits.
func TestOpenOfPressedWrongly(t *testing.T) {
	b := strings.Repeat("0123456789", 30) + strings.Repeat("x", 20)
	pressed := string(chunk.Pack([]byte(b)).Content)
	opens(t, of(2, pressed), b, api.OK)
	for i := range len(pressed) {
		opens(t, of(2, pressed[:i]), "", api.ErrFlate)
		for bit := range 8 {
			other := []byte(pressed)
			other[i] ^= 1 << bit
			want, e := plainOpen(of(2, string(other)))
			opens(t, of(2, string(other)), want, e)
			if e == api.OK && want == b {
				t.Errorf("the bit %d of the byte %d counts for nothing", bit, i)
			}
		}
	}
	for _, s := range []string{"", "\x07", "\x03\x00", "\x01\x00\x00\xff\xff", pressed + "\x00", pressed + pressed, "\x00" + pressed} {
		opens(t, of(2, s), "", api.ErrFlate)
	}
}

// itself answers pressed bytes that are opened as just these: each part has five bytes, and tells none, the four parts behind it, or the last four that were told once more.
func itself(t *testing.T) string {
	t.Helper()
	parts := strings.NewReplacer(
		"none ", "\x00\x00\x00\xff\xff",
		"four ", "\x00\x14\x00\xeb\xff",
		"again ", "\x42\x88\x21\xc4\x00",
		"end ", "\x01\x00\x00\xff\xff",
	)
	b := parts.Replace("none none none four none none none four again four again four again four again four again none none end again none none end ")
	opened, n, e := inflate.Open([]byte(b), len(b))
	if string(opened) != b || n != len(b) || e != api.OK {
		t.Fatalf("%x is opened as %x, %d", b, opened, e)
	}
	return b
}

// TestOpenOfWhatTellsItself holds that a pressed chunk isn't taken for the plain one of the same content.
func TestOpenOfWhatTellsItself(t *testing.T) {
	b := itself(t)
	packs(t, b, 1)
	opens(t, of(2, b), "", api.ErrFlate)
}

// TestOpenOfLongest holds pressed bodies at the edge of how many bytes they may have.
func TestOpenOfLongest(t *testing.T) {
	for n, e := range map[int]api.Errno{1<<20 - 1: api.OK, 1 << 20: api.OK, 1<<20 + 1: api.ErrFlate, 1 << 21: api.ErrFlate} {
		b := strings.Repeat("\x00", n)
		pressed := string(deflate.Press([]byte(b)))
		if e != api.OK {
			b = ""
		}
		opens(t, of(2, pressed), b, e)
	}
}

// TestOpenDrawn holds contents of all sorts against the chapter's words.
func TestOpenDrawn(t *testing.T) {
	rnd := rand.New(rand.NewPCG(22, 7))
	met := map[api.Errno]int{}
	for range 5000 {
		b := drawn(rnd, rnd.IntN(600), 1+rnd.IntN(256))
		c := chunk.Chunk{Kind: 1 + rnd.IntN(2), Content: b}
		if c.Kind == 2 && rnd.IntN(8) > 0 {
			c.Content = deflate.Press(b)
		}
		want, e := plainOpen(c)
		opens(t, c, want, e)
		met[e]++
		if t.Failed() {
			return
		}
	}
	if met[api.OK] < 500 || met[api.ErrFlate] < 500 {
		t.Errorf("met: %v", met)
	}
}

// TestFirstBytes holds each of the first four bytes, of which another one is told first, as soon as it is there.
func TestFirstBytes(t *testing.T) {
	whole := plainPut(of(1, "hi"))
	for i := range len(magic) {
		for x := range 256 {
			b := []byte(whole)
			b[i] = byte(x)
			for n := range len(b) + 1 {
				e := api.ErrMagic
				switch {
				case n == len(whole) && string(b) == whole:
					e = api.OK
				case n <= i || byte(x) == whole[i]:
					e = api.ErrShort
				}
				if x := agrees(t, string(b[:n])); x != e {
					t.Errorf("%x: %d, want %d", b[:n], x, e)
				}
			}
		}
	}
}

// TestErrorsInOrder holds, where several errors apply, which one is told.
func TestErrorsInOrder(t *testing.T) {
	for _, x := range []struct {
		b string
		e api.Errno
	}{
		{"", api.ErrShort},
		{"\x85", api.ErrShort},
		{"x", api.ErrMagic},
		{"\x85\x6f\x4a\x00\x00\x00\x00\x00\x07", api.ErrMagic},
		{magic, api.ErrShort},
		{magic + "\x00\x00\x00\x00", api.ErrShort},
		{magic + "\x00\x00\x00\x00\x00", api.ErrType},
		{magic + "\x00\x00\x00\x00\x03", api.ErrType},
		{magic + "\x00\x00\x00\x00\x81", api.ErrType},
		{magic + "\x00\x00\x00\x00\xff", api.ErrType},
		{magic + "\x00\x00\x00\x00\x03\x80\x00", api.ErrType},
		{magic + "\x00\x00\x00\x00\x01", api.ErrShort},
		{magic + "\x00\x00\x00\x00\x02", api.ErrShort},
		{magic + "\x00\x00\x00\x00\x01\x80", api.ErrShort},
		{magic + "\x00\x00\x00\x00\x01\xff\xff\xff\xff\xff\xff\xff\xff\xff", api.ErrShort},
		{magic + "\x00\x00\x00\x00\x01\xff\xff\xff\xff\xff\xff\xff\xff\xff\xff", api.ErrForm},
		{magic + "\x00\x00\x00\x00\x02\x80\x00", api.ErrForm},
		{magic + "\x00\x00\x00\x00\x01\x81\x80\xc0\x00", api.ErrForm},
		{magic + "\x00\x00\x00\x00\x01\xff\xff\xff\xff\xff\xff\xff\xff\xff\x02", api.ErrForm},
		{magic + "\x00\x00\x00\x00\x01\xff\xff\xff\xff\xff\xff\xff\xff\xff\x01", api.ErrLong},
		{magic + "\x00\x00\x00\x00\x01\xff\xff\xff\xff\xff\xff\xff\xff\x7f", api.ErrLong},
		{magic + "\x00\x00\x00\x00\x01\x81\x80\x40", api.ErrLong},
		{magic + "\x00\x00\x00\x00\x02\x80\x80\x80\x80\x10", api.ErrLong},
		{magic + "\x00\x00\x00\x00\x01\x80\x80\x40", api.ErrShort},
		{magic + "\x00\x00\x00\x00\x01\x01", api.ErrShort},
		{magic + "\x00\x00\x00\x00\x01\x02h", api.ErrShort},
		{magic + "\x00\x00\x00\x00\x01\x02hi", api.ErrSum},
		{magic + "\x00\x00\x00\x00\x01\x00", api.ErrSum},
		{summed("\x03\x02hi"), api.ErrType},
		{summed("\x00\x02hi"), api.ErrType},
		{summed("\x01\x82\x00hi"), api.ErrForm},
	} {
		refused(t, x.b, x.e)
		agrees(t, x.b)
	}
}

// TestKinds holds all kinds that a byte can tell.
func TestKinds(t *testing.T) {
	for x := range 256 {
		b := summed(string([]byte{byte(x), 2}) + "hi")
		if x == 1 || x == 2 {
			nexts(t, b, of(x, "hi"), len(b), api.OK)
		} else {
			refused(t, b, api.ErrType)
		}
	}
}

// TestLongestContent holds contents at the edge of how many bytes they may have, whatever they tell.
func TestLongestContent(t *testing.T) {
	for kind := 1; kind <= 2; kind++ {
		c := of(kind, strings.Repeat("\xff", 1<<20))
		b := string(chunk.Put(c))
		nexts(t, b, c, len(b), api.OK)
		refused(t, b[:len(b)-1], api.ErrShort)
		refused(t, b[:len(b)-1]+"\xfe", api.ErrSum)
		longer := string(chunk.Put(of(kind, strings.Repeat("\xff", 1<<20+1))))
		refused(t, longer, api.ErrLong)
		refused(t, longer[:12], api.ErrLong)
	}
}

// TestCutAndChanged cuts chunks everywhere, and changes each of their bits.
func TestCutAndChanged(t *testing.T) {
	for _, c := range []chunk.Chunk{of(1, ""), of(2, "\x03\x00"), of(1, "hi"), of(1, strings.Repeat("a", 130)), plainPack(strings.Repeat("ab", 200))} {
		b := plainPut(c)
		for i := range len(b) {
			refused(t, b[:i], api.ErrShort)
			for bit := range 8 {
				other := []byte(b)
				other[i] ^= 1 << bit
				e := agrees(t, string(other))
				ends := 10 // where the content begins, but for lengths of two bytes
				if len(c.Content) > 127 {
					ends = 11
				}
				if i < 4 && e != api.ErrMagic || i >= 4 && i < 8 && e != api.ErrSum || i >= ends && e != api.ErrSum || e == api.OK {
					t.Errorf("the bit %d of the byte %d of %s: %d", bit, i, brief(b), e)
				}
			}
		}
	}
}

// TestAllShortBytes holds all rows of some bytes behind what chunks begin with.
func TestAllShortBytes(t *testing.T) {
	met := map[api.Errno]int{}
	for _, x := range []struct {
		ahead, letters string
		most           int
	}{
		{"", "\x85\x6f\x4a\x83\x00\x01", 6},
		{magic + "sums", "\x00\x01\x02\x03\x7f\x80\x81\xff", 5},
		{magic + "\x47\xdc\x54\x0c", "\x00\x01\x02\x80", 6},
		{magic + "sums\x01\xff\xff\xff\xff\xff\xff\xff", "\x00\x01\x02\x7f\x80\xff", 5},
	} {
		rows := []string{x.ahead}
		for range x.most + 1 {
			var longer []string
			for _, b := range rows {
				met[agrees(t, b)]++
				for i := range x.letters {
					longer = append(longer, b+x.letters[i:i+1])
				}
			}
			if t.Failed() {
				return
			}
			rows = longer
		}
	}
	for _, e := range []api.Errno{api.OK, api.ErrShort, api.ErrForm, api.ErrLong, api.ErrMagic, api.ErrType, api.ErrSum} {
		if met[e] == 0 {
			t.Errorf("the error %d wasn't met: %v", e, met)
		}
	}
}

// TestNextDrawn hands in bytes of all sorts: what is read is put as just these, and all else is refused as the chapter has it.
func TestNextDrawn(t *testing.T) {
	rnd := rand.New(rand.NewPCG(22, 8))
	met := map[api.Errno]int{}
	letters := []byte{0, 1, 2, 3, 126, 127, 128, 129, 255, 'a'}
	for range 60000 {
		b := []byte(plainPut(of(1+rnd.IntN(2), string(drawn(rnd, rnd.IntN(4)*rnd.IntN(80), 256)))))
		for range rnd.IntN(3) {
			at := rnd.IntN(min(12, len(b)))
			b[at] = letters[rnd.IntN(len(letters))]
		}
		if rnd.IntN(3) == 0 && b[8] < 3 { // with its sum, whatever it tells
			b = []byte(summed(string(b[8:])))
		}
		if rnd.IntN(20) == 0 {
			b = b[:rnd.IntN(len(b)+1)]
		}
		e := agrees(t, string(b))
		met[e]++
		if c, n, _ := chunk.Next(b); e == api.OK && string(chunk.Put(c)) != string(b[:n]) {
			t.Errorf("%s is put as %s", brief(b[:n]), brief(chunk.Put(c)))
		}
		if t.Failed() {
			return
		}
	}
	for _, e := range []api.Errno{api.OK, api.ErrShort, api.ErrForm, api.ErrLong, api.ErrMagic, api.ErrType, api.ErrSum} {
		if met[e] < 50 {
			t.Errorf("the error %d was met %d times", e, met[e])
		}
	}
}

// TestWhole holds examples of the whole: changes' chunks.
func TestWhole(t *testing.T) {
	c := api.Change{Actor: "a", Seq: 1, Start: 1}
	b := chunk.Put(chunk.Pack(body.Put(c)))
	if len(b) != 19 || !strings.HasPrefix(string(b), magic) {
		t.Errorf("the least change has the chunk %x", b)
	}
	c.Message = strings.Repeat("a", 300)
	p := chunk.Pack(body.Put(c))
	b = chunk.Put(p)
	if p.Kind != 2 || len(b) >= 100 {
		t.Errorf("a change with a message of 300 letters has the chunk %x", b)
	}
	nexts(t, string(b), p, len(b), api.OK)
	opens(t, p, string(body.Put(c)), api.OK)
	opens(t, of(1, string(body.Put(c))), "", api.ErrFlate)
}

// fill fills bytes, spare room included.
func fill(b []byte, x byte) {
	for i := range b[:cap(b)] {
		b[:cap(b)][i] = x
	}
}

// roomy answers bytes with spare room that isn't empty.
func roomy(s string) []byte {
	return []byte(s + "room")[:len(s)]
}

// untouched tells whether bytes that were made roomy are as they were.
func untouched(b []byte, s string) bool {
	return string(b[:len(b)+4]) == s+"room"
}

// bodies answers some bodies, with chunks of both kinds.
func bodies() []string {
	rnd := rand.New(rand.NewPCG(22, 9))
	return []string{"", "hi", strings.Repeat("a", 300), string(drawn(rnd, 300, 256)), string(drawn(rnd, 5000, 16))}
}

// TestMemory holds that no call changes or keeps what is handed in, spare room included, and that answers share no memory.
func TestMemory(t *testing.T) {
	for _, s := range bodies() {
		want := plainPack(s)
		given := roomy(s)
		c := chunk.Pack(given)
		fill(chunk.Pack(given).Content, 99)
		if !untouched(given, s) {
			t.Errorf("Pack(%s) changed what was handed in", brief(s))
		}
		fill(given, 98)
		if !same(c, want) {
			t.Errorf("Pack(%s) became %s", brief(s), brief(c))
		}

		content := string(want.Content)
		given = roomy(content)
		c = chunk.Chunk{Kind: want.Kind, Content: given}
		opened, _ := chunk.Open(c)
		other, _ := chunk.Open(c)
		fill(other, 99)
		put := chunk.Put(c, c)
		fill(chunk.Put(c, c), 99)
		if !untouched(given, content) {
			t.Errorf("Open or Put of %s changed what was handed in", brief(want))
		}
		fill(given, 98)
		if string(opened) != s || string(put) != plainPut(want, want) {
			t.Errorf("answers of %s became %s, %s", brief(want), brief(opened), brief(put))
		}
		memoryOfNext(t, want)
	}
}

// memoryOfNext tells a test that bytes are changed or kept, or that answers share memory.
func memoryOfNext(t *testing.T, want chunk.Chunk) {
	t.Helper()
	b := plainPut(want)
	given := roomy(b)
	c, _, _ := chunk.Next(given)
	other, _, _ := chunk.Next(given)
	fill(other.Content, 99)
	if !untouched(given, b) {
		t.Errorf("Next(%s) changed what was handed in", brief(b))
	}
	fill(given, 98)
	if !same(c, want) {
		t.Errorf("Next(%s) became %s", brief(b), brief(c))
	}
}

// TestPutChangesNoList holds that the list of chunks isn't changed, spare room included.
func TestPutChangesNoList(t *testing.T) {
	l := []chunk.Chunk{of(1, "a"), of(2, "b"), of(1, "c")}
	chunk.Put(l[:2]...)
	if !slices.EqualFunc(l, []chunk.Chunk{of(1, "a"), of(2, "b"), of(1, "c")}, same) {
		t.Errorf("the list became %v", l)
	}
}

// TestNilIsEmpty holds that a list without elements is nil, or isn't.
func TestNilIsEmpty(t *testing.T) {
	for kind := 1; kind <= 2; kind++ {
		with, without := chunk.Put(chunk.Chunk{Kind: kind, Content: []byte{}}), chunk.Put(chunk.Chunk{Kind: kind})
		if !bytes.Equal(with, without) {
			t.Errorf("%x, %x", with, without)
		}
	}
	opens(t, chunk.Chunk{Kind: 1}, "", api.OK)
	opens(t, chunk.Chunk{Kind: 2}, "", api.ErrFlate)
	refused(t, "", api.ErrShort)
	if c, n, e := chunk.Next(nil); c.Kind != 0 || len(c.Content) != 0 || n != 0 || e != api.ErrShort {
		t.Errorf("Next of nil: %v, %d, %d", c, n, e)
	}
	if c := chunk.Pack(nil); c.Kind != 1 || len(c.Content) != 0 {
		t.Errorf("Pack of nil: %v", c)
	}
}

// TestEndsAtAnything hands in kinds that there are not, and contents that are very long: all calls end.
func TestEndsAtAnything(t *testing.T) {
	for _, kind := range []int{math.MinInt, -1, 0, 3, 255, 256, 257, 258, math.MaxInt} {
		for _, s := range bodies() {
			chunk.Put(of(kind, s))
			opens(t, of(kind, s), "", api.ErrFlate)
			opens(t, of(kind, string(deflate.Press([]byte(s)))), "", api.ErrFlate)
		}
	}
	long := strings.Repeat("\x00\x00\x00\xff\xff", 1<<20)
	opens(t, of(2, long), "", api.ErrFlate)
	opens(t, of(1, long), "", api.ErrFlate)
	refused(t, string(chunk.Put(of(1, long))), api.ErrLong)
	refused(t, long, api.ErrMagic)
}

// TestEndsAtManyChunks holds that many chunks are put in a moment.
func TestEndsAtManyChunks(t *testing.T) {
	b := chunk.Put(slices.Repeat([]chunk.Chunk{of(1, "hi")}, 200000)...)
	if one := plainPut(of(1, "hi")); string(b) != strings.Repeat(one, 200000) {
		t.Errorf("%d bytes", len(b))
	}
}
