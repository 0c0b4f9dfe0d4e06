package sha_test

import (
	"crypto/sha256"
	"encoding/hex"
	"slices"
	"strings"
	"testing"

	"scrinium/api"
	"scrinium/sha"
)

const ofNothing = "e3b0c44298fc1c149afbf4c8996fb92427ae41e4649b934ca495991b7852b855"

// edges are lengths around those at which a block is full, and at which the number of bits needs one of its own.
func edges() []int {
	return []int{0, 1, 2, 54, 55, 56, 57, 62, 63, 64, 65, 118, 119, 120, 121, 127, 128, 129, 183, 184, 191, 192, 193}
}

// text has n bytes, of all values, no two rows of 64 alike.
func text(n int) string {
	b := make([]byte, n)
	for i := range b {
		b[i] = byte(i*167 + i/64 + i>>8)
	}
	return string(b)
}

func isSum(t *testing.T, what string, got, want api.Sum) {
	t.Helper()
	if got != want {
		t.Errorf("%s: %x, want %x", what, got, want)
	}
}

func isHexOf(t *testing.T, what string, got api.Sum, want string) {
	t.Helper()
	if s := sha.Hex(got); s != want {
		t.Errorf("%s: %s, want %s", what, s, want)
	}
}

// right is the hash of s by the library of the language.
func right(s string) api.Sum { return sha256.Sum256([]byte(s)) }

// P2.2: the chapter's examples, and those of the standard.
func TestExamples(t *testing.T) {
	isHexOf(t, "nothing", sha.Of(), ofNothing)
	isHexOf(t, "nothing, nil", sha.Of([]string(nil)...), ofNothing)
	isHexOf(t, "nothing, empty", sha.Of(""), ofNothing)
	isHexOf(t, "nothing, often", sha.Of("", "", ""), ofNothing)
	isHexOf(t, "a, bc", sha.Of("a", "bc"), "ba7816bf8f01cfea414140de5dae2223b00361a396177a9cb410ff61f20015ad")
	isHexOf(t, "56 bytes", sha.Of("abcdbcdecdefdefgefghfghighijhijkijkljklmklmnlmnomnopnopq"), "248d6a61d20638b8e5c026930c3e6039a33ce45964ff2167f6ecedd419db06c1")
	isHexOf(t, "112 bytes", sha.Of("abcdefghbcdefghicdefghijdefghijkefghijklfghijklmghijklmnhijklmnoijklmnopjklmnopqklmnopqrlmnopqrsmnopqrstnopqrstu"), "cf5b16a778af8380036ce59e7b0492370b249b11e8f07a51afac45037afee9d1")
	isHexOf(t, "200 a", sha.Of(strings.Repeat("a", 200)), "c2a908d98f5df987ade41b5fce213067efbcc21ef2240212a41e54b5e7c28ae5")
	isHexOf(t, "a million a", sha.Of(strings.Repeat("a", 1000000)), "cdc76e5c9914fb9281a1c7e284d73e67f1809a48a497200e046d39ccc7112cd0")
}

// P2.2: all lengths of some blocks, with bytes 0 and 80 at their end too, which what stands behind a text must not be taken for.
func TestOfAllLengths(t *testing.T) {
	for n := range 330 {
		for _, s := range []string{text(n), strings.Repeat("\x00", n), strings.Repeat("\x80", n), text(n) + "\x80", text(n) + "\x80\x00"} {
			isSum(t, "Of", sha.Of(s), right(s))
		}
	}
	for _, n := range []int{8191, 8192, 8193, 1 << 16, 1<<21 - 1, 1 << 21, 1<<21 + 1} {
		isSum(t, "Of", sha.Of(text(n)), right(text(n)))
	}
}

// P2.2: as the chapter puts a hash together, by Start and Step.
func TestOfIsMadeOfSteps(t *testing.T) {
	for n := range 330 {
		b := append([]byte(text(n)), 0x80)
		for len(b)%64 != 56 {
			b = append(b, 0)
		}
		b = append(b, 0, 0, 0, 0, 0, 0, byte(n*8>>8), byte(n*8))
		state := sha.Start()
		for block := range slices.Chunk(b, 64) {
			var words [16]uint32
			for i := range words {
				words[i] = uint32(block[4*i])<<24 | uint32(block[4*i+1])<<16 | uint32(block[4*i+2])<<8 | uint32(block[4*i+3])
			}
			state = sha.Step(state, words)
		}
		var want api.Sum
		for i, x := range state {
			copy(want[4*i:], []byte{byte(x >> 24), byte(x >> 16), byte(x >> 8), byte(x)})
		}
		isSum(t, "Of", sha.Of(text(n)), want)
	}
}

// P2.2: the number of bits has more than 32.
func TestOfMoreThan32Bits(t *testing.T) {
	part := text(1 << 20)
	parts := slices.Repeat([]string{part}, 513)
	want := sha256.New()
	for range parts {
		want.Write([]byte(part))
	}
	isSum(t, "513 MiB", sha.Of(parts...), api.Sum(want.Sum(nil)))
}

// P2.2
func TestHexAndBytes(t *testing.T) {
	isHexOf(t, "zero", api.Sum{}, strings.Repeat("0", 64))
	for x := range 256 {
		var s api.Sum
		for i := range s {
			s[i] = byte(x + i*7)
		}
		isHexOf(t, "Hex", s, hex.EncodeToString(s[:]))
		if got := sha.Bytes(s); got != string(s[:]) || len(got) != 32 {
			t.Errorf("Bytes: % x, want % x", got, s)
		}
	}
}

// R3: what is handed in stays as it is.
func TestOfLeavesWhatItIsHanded(t *testing.T) {
	l := append(make([]string, 0, 9), "a", "", "bc")
	sha.Of(l...)
	if !slices.Equal(l[:4], []string{"a", "", "bc", ""}) {
		t.Errorf("Of changed what it was handed: %q", l[:4])
	}
}

// P2.4: all cuts into two parts, cuts into three beside the edges, single bytes, empty parts among them.
func TestCutsDoNotMatter(t *testing.T) {
	for _, n := range edges() {
		s := text(n)
		want := right(s)
		for i := range n + 1 {
			isSum(t, "two parts", sha.Of(s[:i], s[i:]), want)
			isSum(t, "empty parts", sha.Of("", s[:i], "", "", s[i:], ""), want)
		}
		for _, i := range edges() {
			for _, j := range edges() {
				if i <= j && j <= n {
					isSum(t, "three parts", sha.Of(s[:i], s[i:j], s[j:]), want)
				}
			}
		}
		for size := 1; size < 70; size++ {
			var parts []string
			for rest := s; rest != ""; {
				m := min(size, len(rest))
				parts, rest = append(parts, rest[:m]), rest[m:]
			}
			isSum(t, "even parts", sha.Of(parts...), want)
		}
	}
}
