package digest_test

import (
	"encoding/hex"
	"errors"
	"slices"
	"strings"
	"testing"

	"tambour/api"
	"tambour/digest"
)

// every is a text that has each value of a byte, once.
func every() string {
	b := make([]byte, 256)
	for i := range b {
		b[i] = byte(i)
	}
	return string(b)
}

// texts calls f with each text of at most n bytes out of those of bytes.
func texts(bytes string, n int, f func(string)) {
	f("")
	if n == 0 {
		return
	}
	for i := range len(bytes) {
		texts(bytes, n-1, func(s string) { f(bytes[i:i+1] + s) })
	}
}

// P3.1: Hex, two digits a byte, the higher half first.
func TestHex(t *testing.T) {
	for b, want := range map[string]string{
		"":                                 "",
		"\x00":                             "00",
		"\x01":                             "01",
		"\x10":                             "10",
		"\x0f":                             "0f",
		"\xf0":                             "f0",
		"\x9a":                             "9a",
		"\xa9":                             "a9",
		"\xff":                             "ff",
		"\x00\xff\x1a":                     "00ff1a",
		"\xde\xad\xbe\xef":                 "deadbeef",
		"\x01\x23\x45\x67\x89\xab\xcd\xef": "0123456789abcdef",
		"abc\n":                            "6162630a",
		"é":                                "c3a9",
		"\xff\xfe":                         "fffe",
		"\xe2\x80":                         "e280",
	} {
		if got := digest.Hex(b); got != want {
			t.Errorf("Hex(%q) = %q, want %q", b, got, want)
		}
	}
}

// P3.1: each byte's two digits, by itself and among others.
func TestHexOfEachByte(t *testing.T) {
	const digits = "0123456789abcdef"
	var all strings.Builder
	for i := range 256 {
		want := string([]byte{digits[i/16], digits[i%16]})
		if got := digest.Hex(string([]byte{byte(i)})); got != want {
			t.Errorf("byte %d: %q, want %q", i, got, want)
		}
		all.WriteString(want)
	}
	if got := digest.Hex(every()); got != all.String() {
		t.Errorf("all bytes: %q", got)
	}
}

// P3.1: Raw, of names that are some, of any even number of digits.
func TestRaw(t *testing.T) {
	for name, want := range map[string]string{
		"":                 "",
		"00":               "\x00",
		"09":               "\x09",
		"0a":               "\x0a",
		"0f":               "\x0f",
		"90":               "\x90",
		"a0":               "\xa0",
		"f0":               "\xf0",
		"ff":               "\xff",
		"00ff1a":           "\x00\xff\x1a",
		"0000":             "\x00\x00",
		"0123456789abcdef": "\x01\x23\x45\x67\x89\xab\xcd\xef",
		"fedcba9876543210": "\xfe\xdc\xba\x98\x76\x54\x32\x10",
		"616263":           "abc",
	} {
		b, e := digest.Raw(name)
		if b != want || e != nil {
			t.Errorf("Raw(%q) = %q, %v, want %q", name, b, e, want)
		}
	}
}

// P3.1, R2: ErrHex, and nothing beside it, of names that are no bytes' Hex.
func TestNotRaw(t *testing.T) {
	right := strings.Repeat("0123456789abcdef", 4)
	for why, name := range map[string]string{
		"one digit":                       "0",
		"an odd number":                   "000",
		"an odd number, of 63":            right[1:],
		"an odd number, of 65":            right + "0",
		"capital letters":                 "FF",
		"the first a capital letter":      "Aa",
		"the last a capital letter":       "aA",
		"one capital letter in 64, first": "A" + right[1:],
		"one capital letter in 64, last":  right[:63] + "F",
		"one capital letter in 64":        right[:31] + "C" + right[32:],
		"no digit, first":                 "g0",
		"no digit, last":                  "0g",
		"no digit in 64, first":           "g" + right[1:],
		"no digit in 64, last":            right[:63] + "g",
		"no digit in 64":                  right[:32] + "g" + right[33:],
		"nothing but no digits":           "zz",
		"a blank first":                   " 00",
		"blanks around":                   " 00 ",
		"a blank between":                 "0 ",
		"a byte 10 behind":                "0\n",
		"a byte 10 behind, odd":           "00\n",
		"a byte 0":                        "0\x00",
		"a sign":                          "-1",
		"a plus":                          "+1",
		"a base ahead":                    "0x00",
		"a low line":                      "0_00",
		"no UTF-8":                        "\xff\xff",
		"digits of full width":            "１２",
		"digits of another script":        "٠",
		"two bytes, one rune":             "é",
	} {
		b, e := digest.Raw(name)
		if b != "" || number(e) != api.ErrHex || !errors.Is(e, api.ErrHex) {
			t.Errorf("%s: Raw(%q) = %q, %v", why, name, b, e)
		}
		if digest.Right(name) {
			t.Errorf("%s: Right(%q)", why, name)
		}
	}
}

func number(e error) api.Errno {
	var n api.Errno
	errors.As(e, &n)
	return n
}

// digit says which bytes are digits.
func digit(b byte) bool {
	return '0' <= b && b <= '9' || 'a' <= b && b <= 'f'
}

// P3.1: each value of a byte at each place of names of 2 and of 64 digits: it is one if that byte is a digit, and not else.
func TestEachByteAtEachPlace(t *testing.T) {
	for _, right := range []string{"5d", strings.Repeat("0123456789abcdef", 4)} {
		for place := range len(right) {
			for i := range 256 {
				name := right[:place] + string([]byte{byte(i)}) + right[place+1:]
				b, e := digest.Raw(name)
				if !digit(byte(i)) {
					if b != "" || number(e) != api.ErrHex || digest.Right(name) {
						t.Errorf("Raw(%q) = %q, %v; Right: %t", name, b, e, digest.Right(name))
					}
					continue
				}
				want, _ := hex.DecodeString(name)
				if b != string(want) || e != nil || digest.Right(name) != (len(name) == 64) {
					t.Errorf("Raw(%q) = %q, %v; Right: %t", name, b, e, digest.Right(name))
				}
			}
		}
	}
}

// P3.1: Right, of names of all lengths around 64: of none but that.
func TestRight(t *testing.T) {
	for _, sign := range []string{"0", "9", "a", "f"} {
		for n := range 200 {
			if got := digest.Right(strings.Repeat(sign, n)); got != (n == 64) {
				t.Errorf("Right of %d digits %s: %t", n, sign, got)
			}
		}
		if digest.Right(strings.Repeat(sign, 1<<20)) {
			t.Errorf("Right of a mebibyte of digits %s", sign)
		}
	}
	for _, sign := range []string{"A", "F", "g", "G", " ", "/", ":", "`", "@", "\x00", "\n", "\xff"} {
		for n := 60; n < 70; n++ {
			if digest.Right(strings.Repeat(sign, n)) {
				t.Errorf("Right of %d bytes %q", n, sign)
			}
		}
	}
	right := strings.Repeat("0123456789abcdef", 4)
	for why, name := range map[string]string{
		"64 digits and a byte 10":          right + "\n",
		"64 digits and a blank ahead":      " " + right,
		"63 digits and a byte 10":          right[:63] + "\n",
		"62 digits and a rune of two":      right[:62] + "é",
		"64 runes, but 128 bytes":          strings.Repeat("é", 64),
		"32 runes of two bytes":            strings.Repeat("é", 32),
		"64 digits in blocks of eight":     strings.Join(slices.Collect(chunks(right, 8)), " "),
		"62 digits behind 0x":              "0x" + right[:62],
		"the digits in capital letters":    strings.ToUpper(right),
		"the bytes, not their digits":      digest.Sum("abc"),
		"the bytes, twice":                 digest.Sum("abc") + digest.Sum("abc"),
		"the name of a text, without last": digest.Name("abc")[:63],
		"the name of a text, and one":      digest.Name("abc") + "0",
		"the names of two texts":           digest.Name("abc") + digest.Name(""),
	} {
		if digest.Right(name) {
			t.Errorf("%s: Right(%q)", why, name)
		}
	}
}

// chunks are s in pieces of n bytes.
func chunks(s string, n int) func(func(string) bool) {
	return func(yield func(string) bool) {
		for ; len(s) > 0; s = s[min(n, len(s)):] {
			if !yield(s[:min(n, len(s))]) {
				return
			}
		}
	}
}

// P3.2: Raw of Hex is the bytes, of all small texts, of each pair of bytes, and of long ones; Hex of that is the digits.
func TestRawOfHex(t *testing.T) {
	back := func(b string) {
		t.Helper()
		name := digest.Hex(b)
		got, e := digest.Raw(name)
		if got != b || e != nil {
			t.Errorf("%.40q came back as %.40q, %v", b, got, e)
		}
		if len(name) != 2*len(b) || digest.Right(name) != (len(b) == 32) {
			t.Errorf("%.40q: %d digits; Right: %t", b, len(name), digest.Right(name))
		}
	}
	texts("\x00\x0a\x1f\xa0\xff", 5, back)
	for i := range 1 << 16 {
		back(string([]byte{byte(i >> 8), byte(i)}))
	}
	for n := range 130 {
		back(strings.Repeat("\x9a", n))
		back(every()[256-n:])
	}
	back(every())
	back(strings.Repeat(every(), 1<<12))
}

// P3.2, from the other side: no two names are of the same bytes.
func TestHexOfRaw(t *testing.T) {
	texts("09afAF", 6, func(name string) {
		b, e := digest.Raw(name)
		if e == nil && digest.Hex(b) != name {
			t.Errorf("%q: %q, and its digits %q", name, b, digest.Hex(b))
		}
		if right := len(name)%2 == 0 && !strings.ContainsAny(name, "AF"); right != (e == nil) {
			t.Errorf("%q: %q, %v", name, b, e)
		}
	})
}
