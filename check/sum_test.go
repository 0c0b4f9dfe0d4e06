package check_test

import (
	"hash/crc32"
	"slices"
	"strings"
	"testing"

	"scrinium/api"
	"scrinium/check"
)

// text has n bytes, of all values, no two rows of 64 alike.
func text(n int) string {
	b := make([]byte, n)
	for i := range b {
		b[i] = byte(i*167 + i/64 + i>>8)
	}
	return string(b)
}

// lengths are those of short texts, and of some around the powers of two.
func lengths() []int {
	return []int{0, 1, 2, 3, 4, 5, 6, 7, 8, 9, 15, 16, 17, 63, 64, 65, 255, 256, 257}
}

// behind is the state behind a text, from c on, in the chapter's own words.
func behind(c uint32, s string) uint32 {
	for _, x := range []byte(s) {
		c ^= uint32(x)
		for range 8 {
			odd := c%2 == 1
			c /= 2
			if odd {
				c ^= 0xedb88320
			}
		}
	}
	return c
}

// sum is a text's sum by the chapter's words.
func sum(s string) uint32 { return ^behind(0xffffffff, s) }

// pieces are those of s of that many bytes, the last one shorter.
func pieces(s string, size int) []string {
	var l []string
	for s != "" {
		n := min(size, len(s))
		l, s = append(l, s[:n]), s[n:]
	}
	return l
}

// numbers are states that Add goes on from: none of their bits, all of them, each one alone, and some others.
func numbers() []uint32 {
	l := []uint32{0, 0xffffffff, 0xdeadbeef, 0x12345678, 0xedb88320, 0x2144df1c, 0xcbf43926, 0x80000001, 0x0000ffff, 0xffff0000}
	for i := range 32 {
		l = append(l, 1<<i, ^(1 << i))
	}
	return l
}

func isSum(t *testing.T, what string, got, want uint32) {
	t.Helper()
	if got != want {
		t.Fatalf("%s: %08x, want %08x", what, got, want)
	}
}

// P4.1: the chapter's examples.
func TestExamples(t *testing.T) {
	isSum(t, "nothing", check.Of(), 0)
	isSum(t, "nothing, nil", check.Of([]string(nil)...), 0)
	isSum(t, "nothing, no parts", check.Of([]string{}...), 0)
	isSum(t, "nothing, empty", check.Of(""), 0)
	isSum(t, "nothing, often", check.Of("", "", ""), 0)
	isSum(t, "123456789", check.Of("123456789"), 0xcbf43926)
	isSum(t, "123456789 in two parts", check.Of("1234", "56789"), 0xcbf43926)
}

// P4.1: sums that others tell.
func TestKnownSums(t *testing.T) {
	isSum(t, "a", check.Of("a"), 0xe8b7be43)
	isSum(t, "abc", check.Of("abc"), 0x352441c2)
	isSum(t, "fox", check.Of("The quick brown fox jumps over the lazy dog"), 0x414fa339)
	isSum(t, "4 bytes 0", check.Of(strings.Repeat("\x00", 4)), 0x2144df1c)
	isSum(t, "32 bytes 0", check.Of(strings.Repeat("\x00", 32)), 0x190a55ad)
	isSum(t, "32 bytes ff", check.Of(strings.Repeat("\xff", 32)), 0xff6cab0b)
	isSum(t, "4 bytes ff", check.Of(strings.Repeat("\xff", 4)), 0xffffffff)
}

// P4.1: texts of one byte, and of two, all of them.
func TestShortTexts(t *testing.T) {
	for x := range 256 {
		one := string([]byte{byte(x)})
		isSum(t, "one byte", check.Of(one), sum(one))
		for y := range 256 {
			two := string([]byte{byte(x), byte(y)})
			isSum(t, "two bytes", check.Of(two), sum(two))
		}
	}
}

// P4.1: texts of many lengths, by the chapter's words and by the library of the language.
func TestOf(t *testing.T) {
	for n := range 600 {
		s := text(n)
		isSum(t, "Of", check.Of(s), sum(s))
		isSum(t, "Of, by the library", check.Of(s), crc32.ChecksumIEEE([]byte(s)))
	}
}

// P4.1: the bytes are bytes, whether or not they are letters.
func TestBytesThatAreNoLetters(t *testing.T) {
	for _, s := range []string{"ä", "€", "𝄞", "\xff\xfe", "\x80", "a\xc3", "\xed\xa0\x80", "a\x00b"} {
		isSum(t, "Of", check.Of(s), sum(s))
		isSum(t, "Add", check.Add(check.Of("x"), s), sum("x"+s))
	}
}

// P4.1: all cuts into two parts and into three, even parts, empty parts among them.
func TestCutsDoNotMatter(t *testing.T) {
	for _, n := range lengths() {
		s := text(n)
		want := sum(s)
		for i := range n + 1 {
			isSum(t, "two parts", check.Of(s[:i], s[i:]), want)
			isSum(t, "empty parts", check.Of("", s[:i], "", "", s[i:], ""), want)
			isSum(t, "Add to a part", check.Add(check.Of(s[:i]), s[i:]), want)
			for j := i; j <= n && n < 70; j++ {
				isSum(t, "three parts", check.Of(s[:i], s[i:j], s[j:]), want)
				isSum(t, "Add to two parts", check.Add(check.Add(check.Of(s[:i]), s[i:j]), s[j:]), want)
			}
		}
		for size := 1; size < 70; size++ {
			isSum(t, "even parts", check.Of(pieces(s, size)...), want)
		}
	}
}

// P4.1: the parts' order does matter.
func TestOrderOfParts(t *testing.T) {
	if check.Of("ab", "c") == check.Of("c", "ab") || check.Of("a", "b") == check.Of("b", "a") {
		t.Error("Of doesn't see in which order its parts stand")
	}
}

// P4.1: Add from any number on, as each is the sum of a text.
func TestAdd(t *testing.T) {
	for _, c := range numbers() {
		isSum(t, "Add of nothing", check.Add(c, ""), c)
		for x := range 256 {
			s := string([]byte{byte(x)})
			isSum(t, "Add of one byte", check.Add(c, s), ^behind(^c, s))
		}
		for _, n := range lengths() {
			s := text(n)
			isSum(t, "Add", check.Add(c, s), ^behind(^c, s))
			isSum(t, "Add, by the library", check.Add(c, s), crc32.Update(c, crc32.IEEETable, []byte(s)))
			for i := range n + 1 {
				isSum(t, "Add twice", check.Add(check.Add(c, s[:i]), s[i:]), ^behind(^c, s))
			}
		}
	}
}

// withSum is a text of four bytes that has the sum c: the steps are gone back from it.
func withSum(c uint32) string {
	back := ^c
	for range 32 {
		odd := back>>31 == 1
		if odd {
			back ^= 0xedb88320
		}
		back <<= 1
		if odd {
			back |= 1
		}
	}
	back = ^back
	return string([]byte{byte(back), byte(back >> 8), byte(back >> 16), byte(back >> 24)})
}

// P4.1: from any number on, Add is Of of a text that has that number as its sum, with s behind it.
func TestAddIsOfOfSomeText(t *testing.T) {
	for _, c := range numbers() {
		ahead := withSum(c)
		isSum(t, "Of of a text made to have it", check.Of(ahead), c)
		for _, n := range lengths() {
			isSum(t, "Add", check.Add(c, text(n)), check.Of(ahead+text(n)))
		}
	}
}

// R5: no text is too long, and there are not too many parts.
func TestLongOnes(t *testing.T) {
	long := text(api.MaxText + 1)
	want := crc32.ChecksumIEEE([]byte(long))
	isSum(t, "a long text", check.Of(long), want)
	isSum(t, "Add of a long text", check.Add(0, long), want)
	many := slices.Repeat([]string{"a"}, 100000)
	isSum(t, "many parts", check.Of(many...), sum(strings.Repeat("a", 100000)))
}

// R3: what is handed in stays as it is, and nothing is kept of it.
func TestWhatIsHandedInStays(t *testing.T) {
	l := append(make([]string, 0, 9), "a", "", "bc")
	for range 2 {
		isSum(t, "Of", check.Of(l...), sum("abc"))
		check.Seal("other")
	}
	if !slices.Equal(l[:4], []string{"a", "", "bc", ""}) {
		t.Errorf("what was handed in is changed: %q", l[:4])
	}
	l[0] = "x"
	isSum(t, "Of behind a change", check.Of(l...), sum("xbc"))
}

// P4.1, P1: whatever the bytes are, from whatever number on, and wherever they are cut.
func FuzzSums(f *testing.F) {
	for i, c := range numbers() {
		f.Add(c, text(i), i/2)
	}
	f.Fuzz(func(t *testing.T, c uint32, s string, i int) {
		i = int(uint(i) % uint(len(s)+1))
		isSum(t, "Of", check.Of(s[:i], s[i:]), sum(s))
		isSum(t, "Add", check.Add(c, s), ^behind(^c, s))
		isSum(t, "Add twice", check.Add(check.Add(c, s[:i]), s[i:]), ^behind(^c, s))
		isSealed(t, s)
		opensAsSealed(t, s)
	})
}
