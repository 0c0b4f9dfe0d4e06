package mac_test

import (
	"crypto/hmac"
	"crypto/sha256"
	"slices"
	"strconv"
	"strings"
	"testing"

	"scrinium/api"
	"scrinium/mac"
	"scrinium/sha"
)

const fox = "The quick brown fox jumps over the lazy dog"

// edges are lengths around those at which a block is full, or a text needs one more.
func edges() []int {
	return []int{0, 1, 2, 31, 32, 33, 55, 56, 57, 62, 63, 64, 65, 66, 119, 120, 127, 128, 129, 200}
}

// text has n bytes, of all values, no two rows of 64 alike, and none that ends in a byte 0.
func text(n int) string {
	b := make([]byte, n)
	for i := range b {
		b[i] = byte(i*167 + i/64 + i>>8)
	}
	if n > 0 && b[n-1] == 0 {
		b[n-1] = 0xff
	}
	return string(b)
}

// zeros are n bytes 0.
func zeros(n int) string { return strings.Repeat("\x00", n) }

// right is the sum of s by the library of the language.
func right(key, s string) api.Sum {
	h := hmac.New(sha256.New, []byte(key))
	h.Write([]byte(s))
	return api.Sum(h.Sum(nil))
}

// pieces are those of s of that many bytes, the last one shorter.
func pieces(s string, size int) []string {
	var l []string
	for s != "" {
		n := min(size, len(s))
		l, s = append(l, s[:n]), s[n:]
	}
	return l
}

func isSum(t *testing.T, what string, got, want api.Sum) {
	t.Helper()
	if got != want {
		t.Errorf("%s: %x, want %x", what, got, want)
	}
}

func isHexOf(t *testing.T, what string, got api.Sum, want string) {
	t.Helper()
	if s := sha.Hex(got); s != want {
		t.Errorf("%s: %s, want %s", what, s, want)
	}
}

// P3.2: the chapter's examples.
func TestExamples(t *testing.T) {
	isHexOf(t, "fox", mac.Of("key", fox), "f7bc83f430538424b13298e6aa6fb143ef4d59a14946175997479dbc2d1a3cd8")
	const empty = "b613679a0814d9ec772f95d778c35fc5ff1697c493715653c6c712144292c5ad"
	isHexOf(t, "nothing", mac.Of(""), empty)
	isHexOf(t, "nothing, nil", mac.Of("", []string(nil)...), empty)
	isHexOf(t, "nothing, empty", mac.Of("", ""), empty)
	isHexOf(t, "nothing, often", mac.Of("", "", "", ""), empty)
}

// P3.2: the examples of RFC 4231.
func TestExamplesOfTheStandard(t *testing.T) {
	count := make([]byte, 25)
	for i := range count {
		count[i] = byte(i + 1)
	}
	for i, c := range []struct{ key, text, want string }{
		{strings.Repeat("\x0b", 20), "Hi There", "b0344c61d8db38535ca8afceaf0bf12b881dc200c9833da726e9376c2e32cff7"},
		{"Jefe", "what do ya want for nothing?", "5bdcc146bf60754e6a042426089575c75a003f089d2739839dec58b964ec3843"},
		{strings.Repeat("\xaa", 20), strings.Repeat("\xdd", 50), "773ea91e36800e46854db8ebd09181a72959098b3ef8c122d9635514ced565fe"},
		{string(count), strings.Repeat("\xcd", 50), "82558a389a443c0ea4cc819899f2083a85f0faa3e578f8077a2e3ff46729665b"},
		{strings.Repeat("\xaa", 131), "Test Using Larger Than Block-Size Key - Hash Key First", "60e431591ee0b67f0d8a26aacbf5b77f8e0bc6213728c5140546040f0ee37f54"},
		{strings.Repeat("\xaa", 131), "This is a test using a larger than block-size key and a larger than block-size data. The key needs to be hashed before being used by the HMAC algorithm.", "9b09ffa71b942fcb27635fbcd5b0e944bfdc63644f0713938a7f51535c3a35e2"},
	} {
		isHexOf(t, "example "+strconv.Itoa(i), mac.Of(c.key, c.text), c.want)
	}
}

// P3.1: keys of all lengths, the edge at 64 among them.
func TestPad(t *testing.T) {
	for n := range 200 {
		key := text(n)
		want := key + zeros(max(0, 64-n))
		if n > 64 {
			h := sha256.Sum256([]byte(key))
			want = string(h[:]) + zeros(32)
		}
		if got := mac.Pad(key); got != want || len(got) != 64 {
			t.Errorf("Pad of %d bytes: % x, want % x", n, got, want)
		}
	}
	if got := mac.Pad(""); got != zeros(64) {
		t.Errorf("Pad of the empty key: % x", got)
	}
	if got := mac.Pad(zeros(65)); got == zeros(64) {
		t.Error("Pad of 65 bytes 0 is not by their hash")
	}
}

// P3.1: a padded key is its own padded key.
func TestPadOfPad(t *testing.T) {
	for _, n := range edges() {
		if pad := mac.Pad(text(n)); mac.Pad(pad) != pad {
			t.Errorf("Pad of Pad of %d bytes: % x, want % x", n, mac.Pad(pad), pad)
		}
	}
}

// P3.2: keys and texts of all lengths around the edges, against the library of the language.
func TestOf(t *testing.T) {
	for n := range 140 {
		for _, m := range edges() {
			isSum(t, "Of", mac.Of(text(n), text(m)), right(text(n), text(m)))
		}
	}
	for x := range 256 {
		key := strings.Repeat(string([]byte{byte(x)}), 64)
		isSum(t, "Of by a key of one byte's value", mac.Of(key, key), right(key, key))
	}
}

// with is s, each byte of which is put together with the mask.
func with(s string, mask byte) string {
	b := []byte(s)
	for i := range b {
		b[i] ^= mask
	}
	return string(b)
}

// P3.2: as the chapter puts a sum together, by Pad and the hash.
func TestOfIsMadeOfTwoHashes(t *testing.T) {
	for _, n := range edges() {
		for _, m := range edges() {
			pad := mac.Pad(text(n))
			inner := sha.Of(with(pad, 0x36), text(m))
			isSum(t, "Of", mac.Of(text(n), text(m)), sha.Of(with(pad, 0x5c), sha.Bytes(inner)))
		}
	}
}

// R5: no key and no text is too long.
func TestLongOnes(t *testing.T) {
	long := text(api.MaxText + 1)
	isSum(t, "a long key", mac.Of(long, "x"), right(long, "x"))
	isSum(t, "a long text", mac.Of("key", long), right("key", long))
	many := slices.Repeat([]string{"a"}, 100000)
	isSum(t, "many parts", mac.Of("key", many...), right("key", strings.Repeat("a", 100000)))
}

// wrongKeys are keys that are like one, but have another sum.
func wrongKeys(key string) []string {
	l := []string{key + "x", "x" + key, key + text(65)}
	for i := range len(key) * 8 {
		b := []byte(key)
		b[i/8] ^= 1 << (i % 8)
		l = append(l, string(b))
	}
	if key != "" {
		l = append(l, "", "\x00"+key, key[1:], key[:len(key)-1])
	}
	return l
}

// P3.2: Right tells a sum from all others, by bits that are turned, by other keys, by other texts.
func TestRight(t *testing.T) {
	for _, n := range []int{0, 1, 32, 63, 64, 65, 100} {
		key := text(n)
		s := mac.Of(key, "ab", "c")
		if !mac.Right(key, s, "ab", "c") || !mac.Right(key, s, "abc") || !mac.Right(key, s, "", "a", "bc") {
			t.Errorf("Right: a key of %d bytes does not know its sum", n)
		}
		for i := range len(s) * 8 {
			turned := s
			turned[i/8] ^= 1 << (i % 8)
			if mac.Right(key, turned, "abc") {
				t.Errorf("Right: the sum with bit %d turned is right", i)
			}
		}
		if mac.Right(key, api.Sum{}, "abc") {
			t.Error("Right: bytes 0 are right")
		}
		for _, other := range wrongKeys(key) {
			if mac.Right(other, s, "abc") {
				t.Errorf("Right: the sum of % x is right by % x", key, other)
			}
		}
		for _, other := range [][]string{nil, {""}, {"ab"}, {"abd"}, {"c", "ab"}, {"abc", "\x00"}, {"\x00", "abc"}, {"abc", "abc"}} {
			if mac.Right(key, s, other...) {
				t.Errorf("Right: the sum of abc is right for %q", other)
			}
		}
		if !mac.Right(key, mac.Of(key)) || !mac.Right(key, mac.Of(key), "") || mac.Right(key, mac.Of(key), "x") {
			t.Errorf("Right: wrong of nothing, by a key of %d bytes", n)
		}
	}
}

// P3.2: neither a plain hash of the key and the text, nor the inner hash alone, is a sum.
func TestRightKnowsNoPlainHash(t *testing.T) {
	pad := mac.Pad("key")
	for _, s := range []api.Sum{sha.Of("abc"), sha.Of("key", "abc"), sha.Of("abc", "key"), sha.Of(pad, "abc"), sha.Of(with(pad, 0x36), "abc"), sha.Of(with(pad, 0x5c), "abc")} {
		if mac.Right("key", s, "abc") {
			t.Errorf("Right: %x is right", s)
		}
	}
}

// P3.4: all cuts into two parts, cuts into three beside the edges, even parts, empty parts among them.
func TestCutsDoNotMatter(t *testing.T) {
	for _, n := range edges() {
		s := text(n)
		want := right("key", s)
		is := func(what string, parts ...string) {
			t.Helper()
			isSum(t, what, mac.Of("key", parts...), want)
			if !mac.Right("key", want, parts...) {
				t.Errorf("Right, %s: false", what)
			}
		}
		for i := range n + 1 {
			is("two parts", s[:i], s[i:])
			is("empty parts", "", s[:i], "", "", s[i:], "")
		}
		for _, i := range edges() {
			for _, j := range edges() {
				if i <= j && j <= n {
					is("three parts", s[:i], s[i:j], s[j:])
				}
			}
		}
		for size := 1; size < 70; size++ {
			is("even parts", pieces(s, size)...)
		}
	}
}

// P3.4: bytes 0 behind a key of at most 64 bytes don't matter, as long as there are no more than 64 with them.
func TestZerosBehindAKey(t *testing.T) {
	for n := range 65 {
		key := text(n)
		want := right(key, "abc")
		for m := range 65 - n {
			longer := key + zeros(m)
			isSum(t, "Of", mac.Of(longer, "abc"), want)
			if !mac.Right(longer, want, "abc") || mac.Pad(longer) != mac.Pad(key) {
				t.Errorf("%d bytes 0 behind a key of %d matter", m, n)
			}
		}
		if longest := key + zeros(65-n); mac.Right(longest, want, "abc") {
			t.Errorf("a key of 65 bytes is taken for one of %d", n)
		}
		if n > 0 && mac.Right("\x00"+key[:n-1], want, "abc") {
			t.Errorf("a byte 0 ahead of a key of %d does not matter", n)
		}
	}
	isSum(t, "the empty key", mac.Of(zeros(64), "abc"), mac.Of("", "abc"))
	if mac.Of(text(65), "abc") == mac.Of(text(65)+"\x00", "abc") {
		t.Error("a byte 0 behind a key of 65 bytes does not matter")
	}
}

// P3.1, P3.2: a key of more than 64 bytes and its hash are one key; one of 64 and its hash are not.
func TestLongKeyAndItsHash(t *testing.T) {
	for _, n := range []int{65, 66, 100, 128, 1000} {
		hash := sha.Bytes(sha.Of(text(n)))
		isSum(t, "the hash as a key", mac.Of(hash, "abc"), right(text(n), "abc"))
		isSum(t, "the key", mac.Of(text(n), "abc"), mac.Of(hash, "abc"))
	}
	for _, n := range []int{0, 32, 63, 64} {
		if mac.Of(text(n), "abc") == mac.Of(sha.Bytes(sha.Of(text(n))), "abc") {
			t.Errorf("a key of %d bytes is taken for its hash", n)
		}
	}
}

// R3: what is handed in stays as it is.
func TestWhatIsHandedInStays(t *testing.T) {
	l := append(make([]string, 0, 9), "a", "", "bc")
	s := mac.Of("key", l...)
	kept := s
	mac.Right("key", s, l...)
	mac.New("key").Sum(l...)
	mac.New("key").Right(s, l...)
	if !slices.Equal(l[:4], []string{"a", "", "bc", ""}) || s != kept {
		t.Errorf("what was handed in is changed: %q, %x", l[:4], s)
	}
}
