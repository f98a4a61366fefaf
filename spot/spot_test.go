package spot_test

import (
	"hash/fnv"
	"math/big"
	"math/rand"
	"strings"
	"sync"
	"testing"

	"starling/api"
	"starling/spot"
)

// keyOf is n bytes that r draws, be they a text or not.
func keyOf(r *rand.Rand, n int) string {
	b := make([]byte, n)
	r.Read(b)
	return string(b)
}

// plainHash does what the chapter says with numbers that do not wrap around.
func plainHash(key string) uint64 {
	h := new(big.Int).SetUint64(0xcbf29ce484222325)
	whole := new(big.Int).Lsh(big.NewInt(1), 64)
	for _, c := range []byte(key) {
		h.Xor(h, big.NewInt(int64(c)))
		h.Mul(h, big.NewInt(0x100000001b3))
		h.Mod(h, whole)
	}
	high := new(big.Int).Div(h, new(big.Int).Lsh(big.NewInt(1), 32))
	return h.Xor(h, high).Uint64()
}

// P7.1: the example.
func TestOfNothing(t *testing.T) {
	if got := spot.Of(""); got != -1 {
		t.Errorf("Of of nothing = %d", got)
	}
}

// P7.1: every length around the bounds, and far beyond them.
func TestLengths(t *testing.T) {
	for _, unit := range []string{"k", "\x00", "\xff", " "} {
		for n := range 300 {
			mustBeValid(t, strings.Repeat(unit, n), n >= 1 && n <= 32)
		}
		mustBeValid(t, strings.Repeat(unit, 1<<20), false)
	}
}

// P7.1: bytes count, not the letters that they spell.
func TestBytesCount(t *testing.T) {
	for _, x := range []struct {
		key  string
		want bool
	}{
		{strings.Repeat("é", 16), true},
		{strings.Repeat("é", 16) + "e", false},
		{strings.Repeat("é", 17), false},
		{strings.Repeat("€", 10) + "é", true},
		{strings.Repeat("€", 11), false},
		{strings.Repeat("\U0001f426", 8), true},
		{strings.Repeat("\U0001f426", 9), false},
		{"\xe2\x82", true},
		{"\n", true},
		{"a\x00b", true},
	} {
		mustBeValid(t, x.key, x.want)
	}
}

// mustBeValid holds what May and Of say of key against whether it is valid.
func mustBeValid(t *testing.T, key string, want bool) {
	t.Helper()
	if got := spot.May(key); got != want {
		t.Errorf("May of %d bytes, %.40q = %v", len(key), key, got)
	}
	part := spot.Of(key)
	if want && (part < 0 || part >= api.Parts) || !want && part != -1 {
		t.Errorf("Of of %d bytes, %.40q = %d", len(key), key, part)
	}
}

// P7.1: worked out from the chapter apart from the program.
func TestRows(t *testing.T) {
	for _, x := range []struct {
		key  string
		hash uint64
		part int
	}{
		{"", 0xcbf29ce44fd0bfc1, -1},
		{"a", 0xaf63dc4c296230c0, 0},
		{"b", 0xaf63df4c29622ee9, 9},
		{"foobar", 0x8594417172ad2699, 9},
	} {
		if got := spot.Hash(x.key); got != x.hash {
			t.Errorf("Hash(%q) = %x, not %x", x.key, got, x.hash)
		}
		if got := spot.Of(x.key); got != x.part {
			t.Errorf("Of(%q) = %d, not %d", x.key, got, x.part)
		}
	}
}

// P7.1: every byte, alone and behind another one.
func TestEveryByte(t *testing.T) {
	for i := range 256 {
		for _, key := range []string{string([]byte{byte(i)}), string([]byte{'k', byte(i)})} {
			mustHash(t, key)
		}
	}
}

// P7.1: keys of every length, those that are not valid too.
func TestAgainstPlainHash(t *testing.T) {
	r := rand.New(rand.NewSource(1))
	for n := range 100 {
		for range 30 {
			mustHash(t, keyOf(r, n))
		}
	}
	mustHash(t, keyOf(r, 1<<16))
}

// mustHash holds what Hash and Of say of key against two other ways to get there.
func mustHash(t *testing.T, key string) {
	t.Helper()
	sum := fnv.New64a()
	sum.Write([]byte(key))
	h := sum.Sum64()
	want := plainHash(key)
	if h^h/(1<<32) != want {
		t.Fatalf("the tests do not agree on the hash of %q", key)
	}
	if got := spot.Hash(key); got != want {
		t.Errorf("Hash(%q) = %x, not %x", key, got, want)
	}
	part := -1
	if len(key) >= 1 && len(key) <= 32 {
		part = int(want % 16)
	}
	if got := spot.Of(key); got != part {
		t.Errorf("Of(%q) = %d, not %d", key, got, part)
	}
}

// P7.1: each part has keys.
func TestEveryPart(t *testing.T) {
	var keys [api.Parts]int
	for i := range 256 {
		for k := range 16 {
			keys[spot.Of(string([]byte{byte(i), byte(k)}))]++
		}
	}
	for part, n := range keys {
		if n == 0 {
			t.Errorf("no key of part %d", part)
		}
	}
}

// P7.2: where the bytes lie, and what lies around them, does not count.
func TestOnlyTheBytesCount(t *testing.T) {
	r := rand.New(rand.NewSource(2))
	for range 300 {
		key := keyOf(r, 1+r.Intn(40))
		before, behind := keyOf(r, r.Intn(9)), keyOf(r, r.Intn(9))
		piece := (before + key + behind)[len(before) : len(before)+len(key)]
		hash, part, may := spot.Hash(key), spot.Of(key), spot.May(key)
		for _, same := range []string{piece, strings.Clone(key), string([]byte(key))} {
			if spot.Hash(same) != hash || spot.Of(same) != part || spot.May(same) != may {
				t.Errorf("the same bytes %q have another answer", key)
			}
		}
	}
}

// P7.2: each byte counts, and so does its place.
func TestEveryByteCounts(t *testing.T) {
	r := rand.New(rand.NewSource(3))
	for range 100 {
		b := []byte(keyOf(r, 2+r.Intn(40)))
		hash := spot.Hash(string(b))
		for i := range b {
			b[i] ^= 1 << r.Intn(8)
			if got := spot.Hash(string(b)); got == hash {
				t.Errorf("byte %d of %q does not count", i, b)
			}
			hash = spot.Hash(string(b))
		}
	}
	for _, x := range [][2]string{{"ab", "ba"}, {"a", "a\x00"}, {"", "\x00"}, {"\x00", "\x00\x00"}} {
		if spot.Hash(x[0]) == spot.Hash(x[1]) {
			t.Errorf("%q and %q have one hash", x[0], x[1])
		}
	}
}

// P7.2: nothing is kept from call to call, in whatever order the calls come.
func TestNothingIsKept(t *testing.T) {
	r := rand.New(rand.NewSource(4))
	var keys []string
	var hashes []uint64
	for n := range 40 {
		keys = append(keys, keyOf(r, n))
		hashes = append(hashes, spot.Hash(keys[n]))
	}
	var all sync.WaitGroup
	for worker := range 4 {
		order := r.Perm(len(keys))
		all.Go(func() {
			for _, i := range order {
				if got := spot.Hash(keys[i]); got != hashes[i] {
					t.Errorf("worker %d: Hash(%q) = %x, not %x", worker, keys[i], got, hashes[i])
				}
				spot.Of(keys[i])
				spot.May(keys[i])
			}
		})
	}
	all.Wait()
}
