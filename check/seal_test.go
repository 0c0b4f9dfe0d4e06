package check_test

import (
	"strings"
	"testing"

	"scrinium/api"
	"scrinium/check"
)

// sealed is the Seal of a text by the chapter's words.
func sealed(s string) string {
	c := sum(s)
	return s + string([]byte{byte(c), byte(c >> 8), byte(c >> 16), byte(c >> 24)})
}

// isSealed fails if a text is not sealed as it must be, or not opened again.
func isSealed(t *testing.T, s string) {
	t.Helper()
	x := check.Seal(s)
	if x != sealed(s) {
		t.Fatalf("Seal of %d bytes: % x, want % x", len(s), x, sealed(s))
	}
	if got, ok := check.Open(x); !ok || got != s {
		t.Fatalf("Open of the Seal of %d bytes: % x, %v", len(s), got, ok)
	}
	if !check.Whole(x) {
		t.Fatalf("Whole of the Seal of %d bytes: false", len(s))
	}
}

// isNotSealed fails if a text is taken for a sealed one.
func isNotSealed(t *testing.T, what, s string) {
	t.Helper()
	if got, ok := check.Open(s); ok || got != "" {
		t.Fatalf("%s: Open of % x: % x, %v", what, s, got, ok)
	}
	if check.Whole(s) {
		t.Fatalf("%s: Whole of % x: true", what, s)
	}
}

// opensAsSealed fails if Open and Whole don't tell whether s is the Seal of what stands ahead of its last 4 bytes.
func opensAsSealed(t *testing.T, s string) {
	t.Helper()
	if len(s) >= 4 && sealed(s[:len(s)-4]) == s {
		isSealed(t, s[:len(s)-4])
	} else {
		isNotSealed(t, "not sealed", s)
	}
}

// P4.2: the chapter's examples.
func TestSealOfNothing(t *testing.T) {
	s := check.Seal("")
	if s != "\x00\x00\x00\x00" {
		t.Errorf("Seal of nothing: % x", s)
	}
	if got, ok := check.Open(s); got != "" || !ok {
		t.Errorf("Open of it: %q, %v", got, ok)
	}
	if !check.Whole(s) {
		t.Error("Whole of it: false")
	}
}

// P4.2: the least byte of a sum comes first.
func TestSealsAreTheLeastFirst(t *testing.T) {
	if s := check.Seal("123456789"); s != "123456789\x26\x39\xf4\xcb" {
		t.Errorf("Seal of 123456789: % x", s)
	}
	if s := check.Seal("abc"); s != "abc\xc2\x41\x24\x35" {
		t.Errorf("Seal of abc: % x", s)
	}
	isNotSealed(t, "the greatest first", "123456789\xcb\xf4\x39\x26")
	isNotSealed(t, "the sum ahead", "\x26\x39\xf4\xcb123456789")
	isNotSealed(t, "the sum with its bits turned", "123456789\xd9\xc6\x0b\x34")
}

// P4.2, P4.3: texts of all lengths, and of one byte, are sealed and opened again.
func TestSealAndOpen(t *testing.T) {
	for n := range 600 {
		isSealed(t, text(n))
		isSealed(t, strings.Repeat("\x00", n))
		isSealed(t, strings.Repeat("\xff", n))
	}
	for x := range 256 {
		isSealed(t, string([]byte{byte(x)}))
	}
}

// P4.2, P4.3: a sealed text is a text, and can be sealed again, as often as one likes.
func TestSealOfSealed(t *testing.T) {
	for _, n := range lengths() {
		s := text(n)
		for range 5 {
			isSealed(t, s)
			s = check.Seal(s)
		}
		for range 5 {
			s, _ = check.Open(s)
		}
		if s != text(n) {
			t.Errorf("opened as often as sealed: % x", s)
		}
	}
}

// P4.2, P4.3: no text of fewer than 4 bytes is sealed, nor has any the sum by which a sealed one is known.
func TestFewerThanFourBytes(t *testing.T) {
	isNotSealed(t, "nothing", "")
	for x := range 1 << 8 {
		isNotSealed(t, "one byte", string([]byte{byte(x)}))
	}
	for x := range 1 << 16 {
		isNotSealed(t, "two bytes", string([]byte{byte(x), byte(x >> 8)}))
	}
	b := make([]byte, 3)
	for x := range 1 << 24 {
		b[0], b[1], b[2] = byte(x), byte(x>>8), byte(x>>16)
		s := string(b)
		if _, ok := check.Open(s); ok || check.Whole(s) {
			t.Fatalf("% x is taken for a sealed text", s)
		}
	}
}

// P4.2, P4.3: of all texts of 4 bytes in which at most two have a value, only that of bytes 0 is sealed.
func TestFourBytes(t *testing.T) {
	for i := range 4 {
		for j := range i {
			for x := range 1 << 16 {
				b := make([]byte, 4)
				b[i], b[j] = byte(x), byte(x>>8)
				if s := string(b); check.Whole(s) != (x == 0) {
					t.Fatalf("Whole of % x: %v", s, x != 0)
				}
				opensAsSealed(t, string(b))
			}
		}
	}
}

// P4.2, P4.3: texts that were not sealed, or whose length is another by now.
func TestNotSealed(t *testing.T) {
	for _, n := range lengths() {
		s := text(n)
		opensAsSealed(t, s)
		x := check.Seal(s)
		isNotSealed(t, "a byte 0 behind", x+"\x00")
		isNotSealed(t, "a byte behind", x+"a")
		isNotSealed(t, "a byte ahead", "a"+x)
		isNotSealed(t, "a byte less behind", x[:len(x)-1])
		for i := range n {
			isNotSealed(t, "a byte less", x[:i]+x[i+1:])
		}
		for i := range n {
			if x[i] != x[i+1] {
				isNotSealed(t, "two bytes changed about", x[:i]+x[i+1:i+2]+x[i:i+1]+x[i+2:])
			}
		}
	}
	isNotSealed(t, "abc", "abc")
	isNotSealed(t, "a text", "a text that was never sealed")
	isNotSealed(t, "bytes ff", "\xff\xff\xff\xff")
}

// P4.2, P4.3: behind a text there is just one sum by which it is whole: bytes of it that are others.
func TestOtherSums(t *testing.T) {
	for _, n := range lengths() {
		x := []byte(check.Seal(text(n)))
		for i := n; i < n+4; i++ {
			right := x[i]
			for y := range 256 {
				x[i] = byte(y)
				if check.Whole(string(x)) != (byte(y) == right) {
					t.Fatalf("Whole, byte %d behind a text of %d bytes is %02x, not %02x: %v", i-n, n, y, right, byte(y) != right)
				}
				opensAsSealed(t, string(x))
			}
			x[i] = right
		}
	}
}

// turned is s with the bits of mask turned, the mask's least bit at bit at of s (the least bit of each byte first); false if a bit of it stands behind s.
func turned(s string, at int, mask uint32) (string, bool) {
	b := []byte(s)
	for i := range 32 {
		if mask>>i&1 == 0 {
			continue
		}
		if (at+i)/8 >= len(b) {
			return "", false
		}
		b[(at+i)/8] ^= 1 << ((at + i) % 8)
	}
	return string(b), true
}

// rows are up to 32 bits in a row of which the first is turned, and with it some others, or all, or the last one.
func rows() []uint32 {
	l := []uint32{0xdeadbeef, 0x12345679, 0xedb88321, 0xaaaaaaab, 0x55555555, 0xf00000ff, 0xdb710641, 0x2144df1d}
	for i := range 32 {
		l = append(l, 1|1<<i, uint32(1<<(i+1)-1))
	}
	return l
}

// P4.3: up to 32 bits in a row are turned, anywhere: the sums differ.
func TestSumsOfTurnedTexts(t *testing.T) {
	for _, n := range []int{1, 2, 3, 4, 5, 8, 9, 20, 65} {
		s := text(n)
		for at := range 8 * n {
			for _, mask := range rows() {
				if x, ok := turned(s, at, mask); ok && check.Of(x) == check.Of(s) {
					t.Fatalf("a text of %d bytes with %08x turned at %d has its sum", n, mask, at)
				}
			}
		}
	}
}

// P4.3: up to 32 bits in a row of a sealed text are turned, in the text, in the sum, and over the edge between both.
func TestTurnedSealedTexts(t *testing.T) {
	for _, n := range []int{0, 1, 2, 3, 4, 5, 8, 9, 20, 65} {
		s := check.Seal(text(n))
		inText, inSum, over := 0, 0, 0
		for at := range 8 * len(s) {
			for _, mask := range rows() {
				x, ok := turned(s, at, mask)
				if !ok {
					continue
				}
				isNotSealed(t, "turned", x)
				switch {
				case x[n:] == s[n:]:
					inText++
				case x[:n] == s[:n]:
					inSum++
				default:
					over++
				}
			}
		}
		if inSum == 0 || n > 0 && (inText == 0 || over == 0) {
			t.Errorf("a text of %d bytes: turned %d times in the text, %d in the sum, %d over the edge", n, inText, inSum, over)
		}
	}
}

// P4.3: all rows of up to 16 bits, anywhere in a short sealed text.
func TestAllShortRows(t *testing.T) {
	s := check.Seal("abc")
	for at := range 8 * len(s) {
		for mask := uint32(1); mask < 1<<16; mask += 2 {
			if x, ok := turned(s, at, mask); ok && check.Whole(x) {
				t.Fatalf("whole with %04x turned at %d", mask, at)
			}
		}
	}
}

// P4.3: the promise is no more than it says: 33 bits in a row may be turned so that a sealed text is another one.
func TestThirtyThreeBits(t *testing.T) {
	// A step takes the first bit off, and puts together with what is left just the bits that are turned behind it.
	x, _ := turned(check.Seal(text(20)), 3, 1)
	x, _ = turned(x, 4, 0xedb88320)
	if got, ok := check.Open(x); !ok || got == text(20) || !check.Whole(x) {
		t.Errorf("a row of 33 bits that steps to nothing is seen: % x, %v", got, ok)
	}
}

// R5: no text is too long to be sealed.
func TestLongSealed(t *testing.T) {
	long := text(api.MaxText + 1)
	s := check.Seal(long)
	if got, ok := check.Open(s); !ok || got != long || !check.Whole(s) {
		t.Error("a long text is not opened again")
	}
	x, _ := turned(s, 8*len(long)-5, 0x401)
	isNotSealedLong(t, x)
}

// isNotSealedLong is isNotSealed, but tells no bytes.
func isNotSealedLong(t *testing.T, s string) {
	t.Helper()
	if got, ok := check.Open(s); ok || got != "" || check.Whole(s) {
		t.Errorf("a turned text of %d bytes is taken for a sealed one", len(s))
	}
}
