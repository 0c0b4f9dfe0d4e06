package sha_test

import (
	"testing"

	"scrinium/sha"
)

// isOf fails if the hash is not one to which s was written. It asks twice, as asking must change nothing.
func isOf(t *testing.T, what string, h *sha.Hash, s string) {
	t.Helper()
	for range 2 {
		if got := h.Len(); got != len(s) {
			t.Errorf("%s: Len %d, want %d", what, got, len(s))
		}
		isSum(t, what, h.Sum(), right(s))
	}
}

func write(t *testing.T, h *sha.Hash, s string) {
	t.Helper()
	if n := h.Write(s); n != len(s) {
		t.Errorf("Write of %d bytes: %d", len(s), n)
	}
}

// P2.3
func TestNothingWasWritten(t *testing.T) {
	h := sha.New()
	isOf(t, "New", h, "")
	write(t, h, "")
	isOf(t, "an empty text", h, "")
	if h == sha.New() {
		t.Error("New tells one hash twice")
	}
}

// P2.3, P2.4: a sum is asked for behind each part, and it is gone on.
func TestSumMayBeGoneOn(t *testing.T) {
	s := text(330)
	for size := 1; size < 140; size++ {
		h, end := sha.New(), 0
		for end < len(s) {
			n := min(size, len(s)-end)
			write(t, h, s[end:end+n])
			end += n
			isOf(t, "behind a part", h, s[:end])
		}
		write(t, h, "")
		isOf(t, "behind all", h, s)
	}
}

// P2.3, P2.4: without a sum between.
func TestWritesBehindEachOther(t *testing.T) {
	for _, n := range edges() {
		for _, m := range edges() {
			h := sha.New()
			write(t, h, text(n))
			write(t, h, text(m))
			isOf(t, "two writes", h, text(n)+text(m))
		}
	}
}

// P2.3, R3: a copy, and a copy of that, go their own ways, whichever is written to first.
func TestCopiesGoTheirOwnWay(t *testing.T) {
	for n := range 200 {
		s := text(n)
		h := sha.New()
		write(t, h, s)
		c := h.Copy()
		isOf(t, "a copy", c, s)
		if c == h {
			t.Fatal("Copy tells the hash itself")
		}
		write(t, c, "to the copy")
		isOf(t, "the first, behind a write to its copy", h, s)
		write(t, h, text(70))
		isOf(t, "the copy, behind a write to the first", c, s+"to the copy")
		d := c.Copy()
		write(t, c, "x")
		write(t, d, "yz")
		isOf(t, "the first", h, s+text(70))
		isOf(t, "the copy", c, s+"to the copyx")
		isOf(t, "the copy's copy", d, s+"to the copyyz")
	}
}

// R1, P1
func TestNilHash(t *testing.T) {
	var h *sha.Hash
	for range 2 {
		for _, s := range []string{"", "abc", text(200)} {
			if n := h.Write(s); n != 0 {
				t.Errorf("Write to a nil hash: %d", n)
			}
		}
		if n := h.Len(); n != 0 {
			t.Errorf("Len of a nil hash: %d", n)
		}
		isHexOf(t, "Sum of a nil hash", h.Sum(), ofNothing)
		if c := h.Copy(); c != nil {
			t.Errorf("Copy of a nil hash: %v", c)
		}
	}
}

// R1: a zero hash is New().
func TestZeroHash(t *testing.T) {
	var zero sha.Hash
	isOf(t, "zero", &zero, "")
	c := zero.Copy()
	isOf(t, "a zero one's copy", c, "")
	write(t, c, "abc")
	isOf(t, "a zero one's copy, written to", c, "abc")
	isOf(t, "zero, its copy written to", &zero, "")
	for _, n := range edges() {
		var h sha.Hash
		write(t, &h, text(n))
		isOf(t, "zero, written to", &h, text(n))
		write(t, &h, text(100))
		isOf(t, "zero, written to again", &h, text(n)+text(100))
	}
}

// P2.3, P2.4, P1: whatever the bytes are, and wherever they are cut.
func FuzzCuts(f *testing.F) {
	for _, n := range edges() {
		f.Add(text(n), n/2, n/3)
	}
	f.Fuzz(func(t *testing.T, s string, i, j int) {
		i = int(uint(i) % uint(len(s)+1))
		j = i + int(uint(j)%uint(len(s)-i+1))
		isSum(t, "Of", sha.Of(s[:i], s[i:j], s[j:]), right(s))
		h := sha.New()
		write(t, h, s[:i])
		c := h.Copy()
		write(t, h, s[i:j])
		write(t, c, s[j:])
		isOf(t, "a hash", h, s[:j])
		isOf(t, "its copy", c, s[:i]+s[j:])
	})
}
