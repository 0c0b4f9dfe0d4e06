package redo_test

import (
	"hash/crc32"
	"math"
	"slices"
	"strings"
	"testing"

	"scrinium/api"
	"scrinium/redo"
)

// full is a sector of one byte.
func full(c byte) string { return strings.Repeat(string([]byte{c}), 256) }

// num is a number as lines have it, by hand.
func num(n int) string {
	var b []byte
	for ; n > 0; n >>= 8 {
		b = append([]byte{byte(n)}, b...)
	}
	return string([]byte{byte(len(b))}) + string(b)
}

// lineOf is a line, by hand: how long it is, its text, the text's sum, bytes 0.
func lineOf(text string) string {
	sum := crc32.ChecksumIEEE([]byte(text))
	sealed := text + string([]byte{byte(sum), byte(sum >> 8), byte(sum >> 16), byte(sum >> 24)})
	s := num(len(sealed)) + sealed
	return s + strings.Repeat("\x00", 256-len(s))
}

func isLine(t *testing.T, what, got, want string) {
	t.Helper()
	if got != want {
		t.Errorf("%s: % x, want % x", what, strings.TrimRight(got, "\x00"), strings.TrimRight(want, "\x00"))
	}
}

// ends are numbers below, at and above both ends of what is kept up to most, and what each is kept as.
func ends(most int) map[int]int {
	return map[int]int{
		math.MinInt: 0, -most: 0, -1: 0, 0: 0, 1: 1, 255: 255, 256: 256,
		most - 1: most - 1, most: most, most + 1: most, 2 * most: most, math.MaxInt: most,
	}
}

const (
	lastSector = 65535
	mostSeq    = 1 << 40
)

// P7.1
func TestLinesByHand(t *testing.T) {
	isLine(t, "Head(0, 1)", redo.Head(0, 1), lineOf("SCH\x00\x01\x01"))
	isLine(t, "Head(258, 7)", redo.Head(258, 7), lineOf("SCH\x02\x01\x02\x01\x07"))
	isLine(t, "First(5, 9)", redo.First(5, []int{9}), lineOf("SCD\x01\x05\x01\x01\x01\x09"))
	isLine(t, "First(1, 0 65535 0)", redo.First(1, []int{0, 65535, 0}), lineOf("SCD\x01\x01\x01\x03\x00\x02\xff\xff\x00"))
	isLine(t, "First(3)", redo.First(3, nil), lineOf("SCD\x01\x03\x00"))
	isLine(t, "First(3) of an empty list", redo.First(3, []int{}), lineOf("SCD\x01\x03\x00"))
	isLine(t, "Last(5, 1)", redo.Last(5, 1), lineOf("SCC\x01\x05\x01\x01"))
	isLine(t, "Last(0, 0)", redo.Last(0, 0), lineOf("SCC\x00\x00"))
}

// P7.1: both ends of what is kept.
func TestLinesAtTheEnds(t *testing.T) {
	for place, keptPlace := range ends(lastSector) {
		for seq, keptSeq := range ends(mostSeq) {
			isLine(t, "Head", redo.Head(place, seq), lineOf("SCH"+num(keptPlace)+num(keptSeq)))
			isLine(t, "First", redo.First(seq, []int{place, 7, place}), lineOf("SCD"+num(keptSeq)+num(3)+num(keptPlace)+num(7)+num(keptPlace)))
		}
	}
	for n, keptN := range ends(mostSeq) {
		for seq, keptSeq := range ends(mostSeq) {
			isLine(t, "Last", redo.Last(seq, n), lineOf("SCC"+num(keptSeq)+num(keptN)))
		}
	}
}

// P7.1, R5: of more than 60 sectors the first 60 count; the longest line of all is a sector too.
func TestFirstOfMany(t *testing.T) {
	for _, n := range []int{1, 59, 60, 61, 62, 255, 256, 100000} {
		at := make([]int, n)
		text := "SCD" + num(mostSeq) + num(min(n, 60))
		for i := range at {
			at[i] = lastSector - i%1000
			if i < 60 {
				text += num(at[i])
			}
		}
		before := slices.Clone(at)
		isLine(t, "First", redo.First(math.MaxInt, at), lineOf(text))
		if !slices.Equal(at, before) { // R3
			t.Errorf("First of %d sectors changed them", n)
		}
	}
}

// R3: the sectors may be changed behind the call, and what stands behind them in memory stays.
func TestFirstLeavesWhatItIsHanded(t *testing.T) {
	at := []int{1, 2, 3, 4}
	told := redo.First(9, at[:2])
	if !slices.Equal(at, []int{1, 2, 3, 4}) {
		t.Errorf("First changed what it was handed: %v", at)
	}
	at[0] = 77
	isLine(t, "First behind a change of its argument", told, redo.First(9, []int{1, 2}))
}

// P7.1: a sector each, and no two alike.
func TestLinesDiffer(t *testing.T) {
	seen := map[string]string{}
	put := func(what, s string) {
		if len(s) != api.SectorSize {
			t.Errorf("%s has %d bytes", what, len(s))
		}
		if other, ok := seen[s]; ok {
			t.Errorf("%s and %s are alike", what, other)
		}
		seen[s] = what
	}
	for a := range 40 {
		for b := range 40 {
			what := num(a) + num(b)
			put("Head "+what, redo.Head(a, b))
			put("Last "+what, redo.Last(a, b))
			put("First "+what, redo.First(a, []int{b}))
			put("First of two "+what, redo.First(a, []int{b, b}))
		}
	}
}
