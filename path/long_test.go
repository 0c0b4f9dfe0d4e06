package path_test

import (
	"math"
	"math/bits"
	"slices"
	"testing"

	"scrinium/path"
)

// most is how many leaves are reckoned at most.
const most = 1 << 40

// isReckoned fails if the lengths and turns of m and n, which may be any, aren't those that climb tells.
func isReckoned(t *testing.T, m, n int) {
	t.Helper()
	long, links := -1, -1
	var turns []bool
	if n <= most && m >= 0 && m < n {
		climb(m, n, func(_, _ int, left bool) { turns = append(turns, left) })
		long = len(turns)
	}
	if n <= most && m >= 1 && m <= n {
		links = 0
		climbLinks(m, n, func(_, _ int, _ bool) { links++ })
	}
	isInt(t, called("Long", m, n), path.Long(m, n), long)
	isInt(t, called("LinksLong", m, n), path.LinksLong(m, n), links)
	if got := path.Turns(m, n); !slices.Equal(got, turns) {
		t.Errorf("%s: %v, want %v", called("Turns", m, n), got, turns)
	}
}

// P10.2: five leaves, one by one.
func TestLengthsOfFive(t *testing.T) {
	const r, l = false, true
	for m, want := range [][]bool{{r, r, r}, {l, r, r}, {r, l, r}, {l, l, r}, {l}} {
		isInt(t, called("Long", m, 5), path.Long(m, 5), len(want))
		if got := path.Turns(m, 5); !slices.Equal(got, want) {
			t.Errorf("%s: %v, want %v", called("Turns", m, 5), got, want)
		}
	}
	for m, want := range []int{-1, 3, 2, 4, 1, 0, -1} {
		isInt(t, called("LinksLong", m, 5), path.LinksLong(m, 5), want)
	}
}

// P10.2: of one leaf there is a path without hashes, and links without any; of none there is neither.
func TestLengthsOfOneAndNone(t *testing.T) {
	isInt(t, "Long(0, 1)", path.Long(0, 1), 0)
	isInt(t, "LinksLong(1, 1)", path.LinksLong(1, 1), 0)
	isInt(t, "Turns(0, 1)", len(path.Turns(0, 1)), 0)
	isInt(t, "Long(0, 0)", path.Long(0, 0), -1)
	isInt(t, "LinksLong(0, 0)", path.LinksLong(0, 0), -1)
	isInt(t, "LinksLong(0, 1)", path.LinksLong(0, 1), -1)
	isInt(t, "Turns(0, 0)", len(path.Turns(0, 0)), 0)
}

// P10.2: they are the lengths of what Path and Links tell.
func TestLengthsAreThoseOfProofs(t *testing.T) {
	all := leaves(100)
	for n := range len(all) + 1 {
		for m := -2; m < n+3; m++ {
			p, ok := path.Path(all[:n], m)
			want := len(p)
			if !ok {
				want = -1
			}
			isInt(t, called("Long", m, n), path.Long(m, n), want)
			isInt(t, "of "+called("Turns", m, n), len(path.Turns(m, n)), max(want, 0))
			k, ok := path.Links(all[:n], m)
			want = len(k)
			if !ok {
				want = -1
			}
			isInt(t, called("LinksLong", m, n), path.LinksLong(m, n), want)
		}
	}
}

// P10.2: all small numbers, against a way that splits nothing.
func TestLengthsOfEachNumber(t *testing.T) {
	for n := range 600 {
		for m := range n + 2 {
			isReckoned(t, m, n)
		}
	}
}

// P10.2: great numbers, up to the greatest that are reckoned and beyond.
func TestLengthsOfGreatNumbers(t *testing.T) {
	for i := 9; i < 42; i++ {
		p := 1 << i
		for _, n := range []int{p - 2, p - 1, p, p + 1, p + 2, p + p/2, p + p/2 + 1, p + p/3} {
			for _, m := range append(some(n), n, n+1) {
				isReckoned(t, m, n)
			}
		}
	}
	for _, n := range []int{most - 1, most} {
		for _, m := range append(some(n), 0x5555555555, 0xaaaaaaaaaa, 0x123456789a, n, n+1) {
			isReckoned(t, m, n)
		}
	}
}

// P10.2: known lengths at the edge.
func TestLengthsAtTheEdge(t *testing.T) {
	for _, m := range []int{0, 1, most / 2, most - 1} {
		isInt(t, called("Long", m, most), path.Long(m, most), 40)
		isInt(t, called("Turns", m, most), len(path.Turns(m, most)), 40)
	}
	isInt(t, called("Long", most-2, most-1), path.Long(most-2, most-1), 39)
	isInt(t, called("LinksLong", 1, most), path.LinksLong(1, most), 40)
	isInt(t, called("LinksLong", most/2, most), path.LinksLong(most/2, most), 1)
	isInt(t, called("LinksLong", most-1, most), path.LinksLong(most-1, most), 41)
	isInt(t, called("LinksLong", most, most), path.LinksLong(most, most), 0)
	for _, left := range path.Turns(0, most) {
		if left {
			t.Error("Turns of the first one: true")
		}
	}
	for _, left := range path.Turns(most-1, most) {
		if !left {
			t.Error("Turns of the last one: false")
		}
	}
}

// P10.2, P1: of numbers above the edge, and of such as there are no proofs for.
func TestNoLengths(t *testing.T) {
	for _, n := range []int{most + 1, most + 2, 2 * most, 1 << 50, 1 << 62, math.MaxInt - 1, math.MaxInt} {
		for _, m := range []int{0, 1, 2, most - 1, most, most + 1, n - 1, n, math.MaxInt, -1, math.MinInt} {
			isInt(t, called("Long", m, n), path.Long(m, n), -1)
			isInt(t, called("LinksLong", m, n), path.LinksLong(m, n), -1)
			isInt(t, called("Turns", m, n), len(path.Turns(m, n)), 0)
		}
	}
	for _, n := range []int{0, -1, -2, -5, -most, math.MinInt, math.MinInt + 1} {
		for _, m := range append(beyond(5), 0, 1, n-1, n, n+1) {
			isInt(t, called("Long", m, n), path.Long(m, n), -1)
			isInt(t, called("LinksLong", m, n), path.LinksLong(m, n), -1)
			isInt(t, called("Turns", m, n), len(path.Turns(m, n)), 0)
		}
	}
	for n := 1; n < 40; n++ {
		for _, m := range beyond(n) {
			isReckoned(t, m, n)
		}
	}
}

// P10.3: no path has more hashes than n - 1 has bits; where n is a power of two, each has as many.
func TestPathsAreShort(t *testing.T) {
	isShort := func(m, n int) {
		t.Helper()
		long, bits := path.Long(m, n), bits.Len(uint(n-1))
		if long < 0 || long > bits || n&(n-1) == 0 && long != bits {
			t.Errorf("%s: %d, but %d bits", called("Long", m, n), long, bits)
		}
	}
	all := leaves(70)
	for n := 1; n < 600; n++ {
		for m := range n {
			isShort(m, n)
			if n <= len(all) {
				p, _ := path.Path(all[:n], m)
				isInt(t, "of "+called("Path", m, n), len(p), path.Long(m, n))
			}
		}
	}
	for i := 10; i <= 40; i++ {
		for _, n := range []int{1<<i - 1, 1 << i, min(1<<i+1, most), min(3<<(i-1), most)} {
			for _, m := range some(n) {
				isShort(m, n)
			}
		}
	}
}

// R3, R4: turns that are told are their owner's; asked again they are the same.
func TestTurnsAreTheirOwners(t *testing.T) {
	for n := 1; n < 60; n++ {
		for m := range n {
			turns := path.Turns(m, n)
			for i := range turns {
				turns[i] = !turns[i]
			}
			clear(turns[:cap(turns)])
			isReckoned(t, m, n)
		}
	}
}

// P10.2: whatever the numbers are.
func FuzzLengths(f *testing.F) {
	f.Add(0, 0)
	f.Add(2, 5)
	f.Add(most-1, most)
	f.Add(math.MaxInt, math.MaxInt)
	f.Fuzz(func(t *testing.T, m, n int) {
		isReckoned(t, m, n)
		isReckoned(t, int(uint(m)%(most+1)), int(uint(n)%(most+1)))
	})
}
