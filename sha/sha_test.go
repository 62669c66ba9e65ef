package sha_test

import (
	"bytes"
	"crypto/sha256"
	"encoding/hex"
	"math/big"
	"math/bits"
	"math/rand/v2"
	"strings"
	"testing"

	"inkwell/api"
	"inkwell/sha"
)

// known are hashes that are published beside the standard, and the chapter's example.
var known = []struct{ s, want string }{
	{"", "e3b0c44298fc1c149afbf4c8996fb92427ae41e4649b934ca495991b7852b855"},
	{"a", "ca978112ca1bbdcafac231b39a23dc4da786eff8147c4e72b9807785afee48bb"},
	{"abc", "ba7816bf8f01cfea414140de5dae2223b00361a396177a9cb410ff61f20015ad"},
	{"\xbd", "68325720aabd7c82f30f554b313d0570c95accbb7dc4b5aae11204c08ffe732b"},
	{"\xc9\x8c\x8e\x55", "7abc22c0ae5af26ce93dbb94433a0e0b2e119d014f8e7f65bd56c61ccccd9504"},
	{"abcdbcdecdefdefgefghfghighijhijkijkljklmklmnlmnomnopnopq", "248d6a61d20638b8e5c026930c3e6039a33ce45964ff2167f6ecedd419db06c1"},
	{"abcdefghbcdefghicdefghijdefghijkefghijklfghijklmghijklmnhijklmnoijklmnopjklmnopqklmnopqrlmnopqrsmnopqrstnopqrstu", "cf5b16a778af8380036ce59e7b0492370b249b11e8f07a51afac45037afee9d1"},
	{strings.Repeat("\x00", 55), "02779466cdec163811d078815c633f21901413081449002f24aa3e80f0b88ef7"},
	{strings.Repeat("\x00", 56), "d4817aa5497628e7c77e6b606107042bbba3130888c5f47a375e6179be789fbb"},
	{strings.Repeat("\x00", 57), "65a16cb7861335d5ace3c60718b5052e44660726da4cd13bb745381b235a1785"},
	{strings.Repeat("\x00", 64), "f5a5fd42d16a20302798ef6ed309979b43003d2320d9f0e8ea9831a92759fb4b"},
	{strings.Repeat("\x00", 1000), "541b3e9daa09b20bf85fa273e5cbd3e80185aa4ec298e765db87742b70138a53"},
	{strings.Repeat("A", 1000), "c2e686823489ced2017f6059b8b239318b6364f6dcd835d0a519105a1eadd6e4"},
	{strings.Repeat("a", 1000000), "cdc76e5c9914fb9281a1c7e284d73e67f1809a48a497200e046d39ccc7112cd0"},
}

func TestKnownHashes(t *testing.T) {
	for _, c := range known {
		h := sha.Of([]byte(c.s))
		if s := hex.EncodeToString(h[:]); s != c.want {
			t.Errorf("Of %d bytes: %s; want %s", len(c.s), s, c.want)
		}
	}
	if sha.Of() != sha.Of([]byte{}) || sha.Of(nil, nil) != sha.Of() {
		t.Error("no parts, and parts without bytes, are unlike")
	}
}

// word answers the chapter's word at a place: bytes with the highest first.
func word(b []byte) uint32 {
	return uint32(b[0])<<24 + uint32(b[1])<<16 + uint32(b[2])<<8 + uint32(b[3])
}

// root answers the first 32 bits behind the point of the square root (n = 2) or the cube root (n = 3) of a number.
func root(n, x int) uint32 {
	power := func(y *big.Int) *big.Int { return new(big.Int).Exp(y, big.NewInt(int64(n)), nil) }
	want := new(big.Int).Lsh(big.NewInt(int64(x)), uint(32*n))
	y := new(big.Int)
	for i := 40; i >= 0; i-- { // bit by bit the greatest one whose power isn't above
		higher := new(big.Int).SetBit(y, i, 1)
		if power(higher).Cmp(want) <= 0 {
			y = higher
		}
	}
	return uint32(y.Uint64())
}

// primes answers the first n primes.
func primes(n int) []int {
	var l []int
	for x := 2; len(l) < n; x++ {
		prime := true
		for _, p := range l {
			prime = prime && x%p != 0
		}
		if prime {
			l = append(l, x)
		}
	}
	return l
}

// plain answers a function that tells the hash by the chapter's words, its numbers worked out from roots.
func plain() func(b []byte) api.Hash {
	var first [8]uint32
	for i, p := range primes(8) {
		first[i] = root(2, p)
	}
	var keys [64]uint32
	for i, p := range primes(64) {
		keys[i] = root(3, p)
	}
	return func(b []byte) api.Hash {
		state := first
		long := append(append([]byte(nil), b...), 128)
		for len(long)%64 != 56 {
			long = append(long, 0)
		}
		for i := range 8 {
			long = append(long, byte(uint64(len(b))*8>>(56-8*i)))
		}
		for ; len(long) > 0; long = long[64:] {
			plainBlock(&state, keys, long[:64])
		}
		var h api.Hash
		for i := range h {
			h[i] = byte(state[i/4] >> (24 - 8*(i%4)))
		}
		return h
	}
}

// plainBlock does what the chapter says of a block.
func plainBlock(state *[8]uint32, keys [64]uint32, block []byte) {
	right := func(x uint32, n int) uint32 { return bits.RotateLeft32(x, 32-n) }
	var w [64]uint32
	for i := range w {
		if i < 16 {
			w[i] = word(block[4*i:])
			continue
		}
		x, y := w[i-15], w[i-2]
		w[i] = w[i-16] + (right(x, 7) ^ right(x, 18) ^ x>>3) + w[i-7] + (right(y, 17) ^ right(y, 19) ^ y>>10)
	}
	l := *state
	for i := range w {
		a, b, c, e, f, g := l[0], l[1], l[2], l[4], l[5], l[6]
		t := l[7] + (right(e, 6) ^ right(e, 11) ^ right(e, 25)) + (e&f | ^e&g) + keys[i] + w[i]
		u := (right(a, 2) ^ right(a, 13) ^ right(a, 22)) + (a&b | a&c | b&c)
		l = [8]uint32{t + u, a, b, c, l[3] + t, e, f, g}
	}
	for i := range state {
		state[i] += l[i]
	}
}

// some answers n bytes that look like nothing.
func some(rnd *rand.Rand, n int) []byte {
	b := make([]byte, n)
	for i := range b {
		b[i] = byte(rnd.Uint32())
	}
	return b
}

// TestAllLengths goes through all lengths of a few blocks, so that each rest of a block ends the bytes.
func TestAllLengths(t *testing.T) {
	rnd := rand.New(rand.NewPCG(4, 1))
	chapter := plain()
	for n := range 600 {
		for _, b := range [][]byte{make([]byte, n), bytes.Repeat([]byte{255}, n), bytes.Repeat([]byte{128}, n), some(rnd, n)} {
			h := sha.Of(b)
			if h != chapter(b) {
				t.Errorf("Of(%x) isn't the chapter's", b)
			}
			if h != sha256.Sum256(b) {
				t.Errorf("Of(%x) isn't the library's", b)
			}
		}
	}
}

// TestEachBit: blocks of one bit alone, at each place.
func TestEachBit(t *testing.T) {
	for _, n := range []int{1, 55, 64, 65, 128} {
		for i := range 8 * n {
			b := make([]byte, n)
			b[i/8] = 1 << (i % 8)
			if sha.Of(b) != sha256.Sum256(b) {
				t.Errorf("Of %d bytes with the bit %d", n, i)
			}
		}
	}
}

// TestChain: hashes of hashes, so that a sum that is seldom wrong is met.
func TestChain(t *testing.T) {
	rnd := rand.New(rand.NewPCG(4, 2))
	seed := api.Hash(some(rnd, 32))
	mine, want := seed, [32]byte(seed)
	for range 50000 {
		mine = sha.Of(mine[:], seed[:])
		want = sha256.Sum256(append(want[:], seed[:]...))
	}
	if mine != want {
		t.Errorf("%x; want %x", mine, want)
	}
}

func TestHasherOfNothing(t *testing.T) {
	want := api.Hash(sha256.Sum256(nil))
	var zero sha.Hasher
	for _, h := range []*sha.Hasher{&zero, new(sha.Hasher), {}} {
		if h.Len() != 0 || h.Sum() != want {
			t.Errorf("the zero one: %d, %x", h.Len(), h.Sum())
		}
		h.Write()
		h.Write(nil)
		h.Write([]byte{}, nil, make([]byte, 0, 9))
		if h.Len() != 0 || h.Sum() != want {
			t.Errorf("behind no bytes: %d, %x", h.Len(), h.Sum())
		}
	}
}

// TestStepByStep asks behind each byte, twice, and goes on.
func TestStepByStep(t *testing.T) {
	rnd := rand.New(rand.NewPCG(4, 3))
	b := some(rnd, 700)
	var h sha.Hasher
	for i := range b {
		h.Write(b[i : i+1])
		want := api.Hash(sha256.Sum256(b[:i+1]))
		for range 2 {
			if h.Len() != uint64(i+1) || h.Sum() != want {
				t.Fatalf("behind %d bytes: %d, %x; want %x", i+1, h.Len(), h.Sum(), want)
			}
		}
	}
}

// TestTwoParts cuts bytes at each place, and asks between, or doesn't.
func TestTwoParts(t *testing.T) {
	rnd := rand.New(rand.NewPCG(4, 4))
	for _, n := range []int{0, 1, 55, 56, 63, 64, 65, 119, 120, 127, 128, 129, 200} {
		b := some(rnd, n)
		want := api.Hash(sha256.Sum256(b))
		for k := range n + 1 {
			if sha.Of(b[:k], b[k:]) != want {
				t.Errorf("Of %d bytes, cut at %d", n, k)
			}
			var one, two, asked sha.Hasher
			one.Write(b[:k], b[k:])
			two.Write(b[:k])
			two.Write(b[k:])
			asked.Write(b[:k])
			if asked.Sum() != sha256.Sum256(b[:k]) || asked.Len() != uint64(k) {
				t.Errorf("Write of %d bytes: Len = %d, or another hash", k, asked.Len())
			}
			asked.Write(b[k:])
			for _, h := range []*sha.Hasher{&one, &two, &asked} {
				if h.Sum() != want || h.Len() != uint64(n) {
					t.Errorf("Write of %d bytes, cut at %d: Len = %d, or another hash", n, k, h.Len())
				}
			}
		}
	}
}

// cut answers bytes in parts, some of them without bytes.
func cut(rnd *rand.Rand, b []byte) [][]byte {
	var parts [][]byte
	for len(b) > 0 {
		n := min(rnd.IntN(1+rnd.IntN(300)), len(b))
		parts = append(parts, b[:n])
		b = b[n:]
	}
	return parts
}

func TestManyParts(t *testing.T) {
	rnd := rand.New(rand.NewPCG(4, 5))
	for range 3000 {
		b := some(rnd, rnd.IntN(2000))
		want := api.Hash(sha256.Sum256(b))
		parts := cut(rnd, b)
		if sha.Of(parts...) != want {
			t.Fatalf("Of %d bytes in %d parts", len(b), len(parts))
		}
		var h sha.Hasher
		for len(parts) > 0 {
			k := 1 + rnd.IntN(len(parts))
			h.Write(parts[:k]...)
			parts = parts[k:]
			if rnd.IntN(4) == 0 {
				h.Sum()
			}
		}
		if h.Sum() != want || h.Len() != uint64(len(b)) {
			t.Fatalf("Write of %d bytes: Len = %d, or another hash", len(b), h.Len())
		}
	}
}

// TestHashersApart: what one takes in counts for no other one.
func TestHashersApart(t *testing.T) {
	var a, b sha.Hasher
	for i := range 200 {
		a.Write([]byte{byte(i)})
		b.Write([]byte{byte(i), 7})
		sha.Of([]byte("between"))
	}
	var wantA, wantB []byte
	for i := range 200 {
		wantA = append(wantA, byte(i))
		wantB = append(wantB, byte(i), 7)
	}
	if a.Sum() != sha256.Sum256(wantA) || b.Sum() != sha256.Sum256(wantB) {
		t.Error("two hashers by turns tell other hashes")
	}
}

// TestWhatIsHandedIn isn't changed, spare room included, and isn't kept.
func TestWhatIsHandedIn(t *testing.T) {
	rnd := rand.New(rand.NewPCG(4, 6))
	for _, n := range []int{0, 1, 55, 56, 63, 64, 100, 300} {
		room := some(rnd, n+200)
		was := bytes.Clone(room)
		parts := [][]byte{room[: n/2 : n+200], room[n/2 : n], nil}
		spare := [][]byte{parts[0], parts[1], room[:1]}
		var h sha.Hasher
		h.Write(spare[:2]...)
		h.Sum()
		sha.Of(spare[:2]...)
		if !bytes.Equal(room, was) {
			t.Errorf("what was handed in became %x; it was %x", room, was)
		}
		if len(spare[0]) != n/2 || len(spare[1]) != n-n/2 || &spare[2][0] != &room[0] {
			t.Error("the list of parts became another one")
		}
		clear(room)
		if h.Sum() != sha256.Sum256(was[:n]) {
			t.Errorf("writing on %d bytes behind their Write shows", n)
		}
	}
}

// TestAnswersApart: an answer that is written on shows in no later one.
func TestAnswersApart(t *testing.T) {
	var h sha.Hasher
	h.Write([]byte("abc"))
	sum := h.Sum()
	clear(sum[:])
	if h.Sum() != sha256.Sum256([]byte("abc")) {
		t.Error("an answer shares memory with its hasher")
	}
}

// TestManyBytes goes on till the number of bits has a fifth byte.
func TestManyBytes(t *testing.T) {
	rnd := rand.New(rand.NewPCG(4, 7))
	b := some(rnd, 1<<20)
	var h sha.Hasher
	want := sha256.New()
	n := uint64(0)
	take := func(b []byte) {
		h.Write(b)
		want.Write(b)
		n += uint64(len(b))
		if sum := h.Sum(); h.Len() != n || !bytes.Equal(sum[:], want.Sum(nil)) {
			t.Fatalf("behind %d bytes: %d, %x", n, h.Len(), sum)
		}
	}
	for range 511 {
		take(b)
	}
	take(b[1:])
	for range 3 {
		take(b[:1])
	}
}
