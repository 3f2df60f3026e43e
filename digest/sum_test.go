package digest_test

import (
	"crypto/sha256"
	"encoding/hex"
	"errors"
	"strings"
	"testing"

	"tambour/api"
	"tambour/digest"
)

// sums holds Sum and Name of s against the library's.
func sums(t *testing.T, s string) {
	t.Helper()
	want := sha256.Sum256([]byte(s))
	if got := digest.Sum(s); got != string(want[:]) {
		t.Errorf("%d bytes, %.40q: Sum %x, want %x", len(s), s, got, want)
	}
	if got := digest.Name(s); got != hex.EncodeToString(want[:]) {
		t.Errorf("%d bytes, %.40q: Name %q, want %x", len(s), s, got, want)
	}
}

// P3.1: digests that are known, the chapter's examples among them.
func TestKnown(t *testing.T) {
	for s, want := range map[string]string{
		"":                           "e3b0c44298fc1c149afbf4c8996fb92427ae41e4649b934ca495991b7852b855",
		"a":                          "ca978112ca1bbdcafac231b39a23dc4da786eff8147c4e72b9807785afee48bb",
		"abc":                        "ba7816bf" + "8f01cfea" + "414140de" + "5dae2223" + "b00361a3" + "96177a9c" + "b410ff61" + "f20015ad",
		"message digest":             "f7846f55cf23e14eebeab5b4e1550cad5b509e3348fbc4efa3a1413d393cb650",
		"abcdefghijklmnopqrstuvwxyz": "71c480df93d6ae2f1efad1447c66c9525e316218cf51fc8d9ed832f2daf18b73",
		"The quick brown fox jumps over the lazy dog":                                                                      "d7a8fbb307d7809469ca9abcb0082e4f8d5651e46d3cdb762d02d0bf37c9e592",
		"abcdbcdecdefdefgefghfghighijhijkijkljklmklmnlmnomnopnopq":                                                         "248d6a61d20638b8e5c026930c3e6039a33ce45964ff2167f6ecedd419db06c1",
		"12345678901234567890123456789012345678901234567890123456789012345678901234567890":                                 "f371bc4a311f2b009eef952dd83ca80e2b60026c8e935592d0f9c308453c813e",
		"abcdefghbcdefghicdefghijdefghijkefghijklfghijklmghijklmnhijklmnoijklmnopjklmnopqklmnopqrlmnopqrsmnopqrstnopqrstu": "cf5b16a778af8380036ce59e7b0492370b249b11e8f07a51afac45037afee9d1",
		strings.Repeat("a", 1000000):                                                                                       "cdc76e5c9914fb9281a1c7e284d73e67f1809a48a497200e046d39ccc7112cd0",
	} {
		if got := digest.Name(s); got != want {
			t.Errorf("Name(%.40q) = %q, want %q", s, got, want)
		}
		if got := digest.Sum(s); len(got) != 32 || digest.Hex(got) != want {
			t.Errorf("Sum(%.40q) = %q", s, got)
		}
		if b, e := digest.Raw(want); b != digest.Sum(s) || e != nil || !digest.Right(want) {
			t.Errorf("Raw(%q) = %q, %v", want, b, e)
		}
	}
}

// P3.1: texts of each length over several blocks: one block more comes of what is added from 56 bytes modulo 64 on.
func TestEachLength(t *testing.T) {
	long := strings.Repeat(every(), 5)
	for n := range 1200 {
		sums(t, long[:n])
		sums(t, strings.Repeat("\x00", n))
		sums(t, strings.Repeat("\x80", n))
		sums(t, strings.Repeat("\xff", n))
	}
	for _, n := range []int{55, 56, 57, 63, 64, 65, 119, 120, 127, 128, 1015, 1016, 1023, 1024, 1079, 1080, 1087, api.MaxFile, api.MaxStored, api.MaxForm - 1, api.MaxForm} {
		sums(t, strings.Repeat("x", n))
	}
}

// P3.1: what is added may not be told from the text: a text that ends as what is added has a digest of its own.
func TestWhatIsAdded(t *testing.T) {
	seen := map[string]string{}
	for n := range 130 {
		for _, s := range []string{
			strings.Repeat("x", n),
			strings.Repeat("x", n) + "\x80",
			strings.Repeat("x", n) + "\x80\x00",
			strings.Repeat("x", n) + "\x80" + strings.Repeat("\x00", 55),
			strings.Repeat("x", n) + "\x80" + strings.Repeat("\x00", (119-n%64)%64) + "\x00\x00\x00\x00\x00\x00" + string([]byte{byte(8 * n >> 8), byte(8 * n)}),
		} {
			sums(t, s)
			if other, ok := seen[digest.Sum(s)]; ok {
				t.Errorf("%q and %q have one digest", s, other)
			}
			seen[digest.Sum(s)] = s
		}
	}
}

// P3.1: each value of a byte at each place of a block, and of the one behind it.
func TestEachByteOfABlock(t *testing.T) {
	for _, n := range []int{1, 55, 64, 119} {
		b := []byte(strings.Repeat("m", n))
		for place := range b {
			for i := range 256 {
				b[place] = byte(i)
				sums(t, string(b))
			}
			b[place] = 'm'
		}
	}
}

// P3.1: two texts that part in one bit alone have unlike digests, wherever the bit stands.
func TestOneBit(t *testing.T) {
	for _, n := range []int{1, 55, 56, 63, 64, 65, 119, 128, 1025} {
		s := strings.Repeat(every(), 5)[:n]
		seen := map[string]bool{digest.Sum(s): true}
		for bit := range 8 * n {
			b := []byte(s)
			b[bit/8] ^= 1 << (bit % 8)
			sums(t, string(b))
			if seen[digest.Sum(string(b))] {
				t.Errorf("%d bytes: bit %d: a digest that was there already", n, bit)
			}
			seen[digest.Sum(string(b))] = true
		}
	}
}

// P3.1: a long text, with no steps beyond the order of its bytes; the length in bits needs more than four bytes from
// half a gibibyte on.
func TestLong(t *testing.T) {
	sums(t, strings.Repeat(every(), 1<<14))
	if testing.Short() {
		t.Skip("half a gibibyte")
	}
	s := strings.Repeat("tambour\n", 1<<26)
	want := sha256.New()
	for piece := range chunks(s, 1<<20) {
		want.Write([]byte(piece))
	}
	if got := digest.Sum(s); got != string(want.Sum(nil)) {
		t.Errorf("half a gibibyte: %x, want %x", got, want.Sum(nil))
	}
}

// R7: an answer hangs on no call that was made before.
func TestTheSameAgain(t *testing.T) {
	for range 3 {
		for _, s := range []string{"", "abc", every(), strings.Repeat("x", 1000)} {
			sums(t, s)
			digest.Raw("0g")
			digest.Raw("00ff1a")
			digest.Right(s)
			digest.Hex(s)
			sums(t, s)
		}
	}
}

// P0: each call ends and none panics, whatever bytes come; what it answers holds against the library's and the words.
func FuzzDigest(f *testing.F) {
	for _, s := range []string{"", "0", "00", "0g", "FF", "00ff1a", "\xff\x80", every(), strings.Repeat("x", 55), strings.Repeat("x", 56), strings.Repeat("0", 63), strings.Repeat("0", 64), strings.Repeat("0", 65), strings.Repeat("F", 64)} {
		f.Add(s)
	}
	f.Fuzz(func(t *testing.T, s string) {
		sums(t, s)
		if got, e := digest.Raw(digest.Hex(s)); got != s || e != nil {
			t.Errorf("%q came back as %q, %v", s, got, e)
		}
		right := len(s)%2 == 0
		for i := range len(s) {
			right = right && digit(s[i])
		}
		if digest.Right(s) != (right && len(s) == 64) {
			t.Errorf("Right(%q) = %t", s, digest.Right(s))
		}
		b, e := digest.Raw(s)
		if right && (e != nil || digest.Hex(b) != s) || !right && (b != "" || !errors.Is(e, api.ErrHex)) {
			t.Errorf("Raw(%q) = %q, %v", s, b, e)
		}
	})
}
