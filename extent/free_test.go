package extent_test

import (
	"math"
	"slices"
	"testing"

	"scrinium/api"
	"scrinium/extent"
)

func takes(t *testing.T, l []api.Run, n int, taken, left []api.Run) {
	t.Helper()
	a, b, ok := extent.Take(l, n)
	if !ok || !slices.Equal(a, taken) || !slices.Equal(b, left) {
		t.Fatalf("Take(%v, %d): %v, %v, %v, want %v, %v, true", l, n, a, b, ok, taken, left)
	}
}

// takesNot fails if anything is told but the list as it was.
func takesNot(t *testing.T, l []api.Run, n int) {
	t.Helper()
	a, b, ok := extent.Take(l, n)
	if ok || len(a) != 0 || !slices.Equal(b, l) {
		t.Fatalf("Take(%v, %d): %v, %v, %v, want nothing, the list, false", l, n, a, b, ok)
	}
}

func gives(t *testing.T, l []api.Run, r api.Run, want []api.Run) {
	t.Helper()
	got, ok := extent.Give(l, r)
	if !ok || !slices.Equal(got, want) {
		t.Fatalf("Give(%v, %v): %v, %v, want %v, true", l, r, got, ok, want)
	}
}

// givesNot fails if anything is told but the list as it was.
func givesNot(t *testing.T, l []api.Run, r api.Run) {
	t.Helper()
	if got, ok := extent.Give(l, r); ok || !slices.Equal(got, l) {
		t.Fatalf("Give(%v, %v): %v, %v, want the list, false", l, r, got, ok)
	}
}

// others are lists that are no free lists.
func others() [][]api.Run {
	return [][]api.Run{
		runs(2, 0), runs(2, -1), runs(-1, 3), runs(65535, 2), runs(65536, 1), runs(2, 3, 5, 1), runs(2, 3, 4, 1), runs(9, 1, 2, 3),
		runs(2, 3, 9, 0), runs(0, 0), runs(0, math.MaxInt), runs(math.MaxInt, math.MaxInt), runs(math.MinInt, math.MaxInt), runs(2, 3, 2, 3),
	}
}

// The chapter's examples.
func TestExamples(t *testing.T) {
	takes(t, runs(2, 3, 9, 1), 4, runs(2, 3, 9, 1), nil)
	gives(t, runs(2, 3), api.Run{At: 5, N: 1}, runs(2, 4))
	givesNot(t, runs(2, 3), api.Run{At: 4, N: 1})
}

// P6.2: none, some, all; with a run that must be cut, and without.
func TestTake(t *testing.T) {
	l := runs(2, 3, 9, 2, 20, 1)
	takes(t, l, 0, nil, l)
	takes(t, l, 1, runs(2, 1), runs(3, 2, 9, 2, 20, 1))
	takes(t, l, 2, runs(2, 2), runs(4, 1, 9, 2, 20, 1))
	takes(t, l, 3, runs(2, 3), runs(9, 2, 20, 1))
	takes(t, l, 4, runs(2, 3, 9, 1), runs(10, 1, 20, 1))
	takes(t, l, 5, runs(2, 3, 9, 2), runs(20, 1))
	takes(t, l, 6, l, nil)
	takes(t, nil, 0, nil, nil)
	takes(t, runs(0, 65536), 65535, runs(0, 65535), runs(65535, 1))
	takes(t, runs(0, 65536), 65536, runs(0, 65536), nil)
}

// P6.2: more than there are, fewer than none, and lists that are no free lists: what was handed in is handed on.
func TestTakeNot(t *testing.T) {
	for _, l := range [][]api.Run{nil, runs(0, 1), runs(65535, 1), runs(2, 3, 9, 2), runs(0, 65536)} {
		all := extent.Total(l)
		for _, n := range []int{-1, -2, -all, math.MinInt, math.MinInt + 1, all + 1, all + 2, 65537, 1 << 50, 1<<50 + 1, math.MaxInt} {
			if n < 0 || n > all {
				takesNot(t, l, n)
			}
		}
	}
	for _, l := range others() {
		for _, n := range []int{-1, 0, 1, 2, 3, 4, 5, 65536, math.MaxInt, math.MinInt} {
			takesNot(t, l, n)
		}
	}
}

// P6.2: ahead of, between and behind runs, with runs that join none, one neighbour, or both.
func TestGive(t *testing.T) {
	l := runs(5, 3, 12, 2, 20, 1)
	for _, c := range []struct{ r, want []api.Run }{
		{runs(0, 1), runs(0, 1, 5, 3, 12, 2, 20, 1)},
		{runs(0, 4), runs(0, 4, 5, 3, 12, 2, 20, 1)},
		{runs(0, 5), runs(0, 8, 12, 2, 20, 1)},
		{runs(4, 1), runs(4, 4, 12, 2, 20, 1)},
		{runs(8, 1), runs(5, 4, 12, 2, 20, 1)},
		{runs(8, 3), runs(5, 6, 12, 2, 20, 1)},
		{runs(9, 1), runs(5, 3, 9, 1, 12, 2, 20, 1)},
		{runs(9, 2), runs(5, 3, 9, 2, 12, 2, 20, 1)},
		{runs(9, 3), runs(5, 3, 9, 5, 20, 1)},
		{runs(11, 1), runs(5, 3, 11, 3, 20, 1)},
		{runs(8, 4), runs(5, 9, 20, 1)},
		{runs(14, 6), runs(5, 3, 12, 9)},
		{runs(16, 2), runs(5, 3, 12, 2, 16, 2, 20, 1)},
		{runs(19, 1), runs(5, 3, 12, 2, 19, 2)},
		{runs(21, 1), runs(5, 3, 12, 2, 20, 2)},
		{runs(21, 65515), runs(5, 3, 12, 2, 20, 65516)},
		{runs(22, 1), runs(5, 3, 12, 2, 20, 1, 22, 1)},
		{runs(65535, 1), runs(5, 3, 12, 2, 20, 1, 65535, 1)},
	} {
		gives(t, l, c.r[0], c.want)
	}
	gives(t, nil, api.Run{At: 0, N: 65536}, runs(0, 65536))
	gives(t, nil, api.Run{At: 65535, N: 1}, runs(65535, 1))
	gives(t, runs(0, 65535), api.Run{At: 65535, N: 1}, runs(0, 65536))
	gives(t, runs(0, 1, 65535, 1), api.Run{At: 1, N: 65534}, runs(0, 65536))
}

// P6.2: sectors that are free already, at every place of a run, and over several runs.
func TestGiveWhatIsFree(t *testing.T) {
	l := runs(5, 3, 12, 2, 20, 1)
	for _, r := range runs(5, 1, 6, 1, 7, 1, 5, 3, 4, 2, 7, 2, 4, 5, 8, 5, 0, 6, 0, 65536, 7, 6, 13, 1, 12, 2, 11, 2, 14, 7, 20, 1, 19, 2, 20, 2, 19, 3, 20, 65516) {
		givesNot(t, l, r)
	}
	givesNot(t, runs(0, 65536), api.Run{At: 0, N: 1})
	givesNot(t, runs(0, 65536), api.Run{At: 65535, N: 1})
	givesNot(t, runs(0, 65536), api.Run{At: 0, N: 65536})
}

// P6.2: runs that have no sector, or not from 0 to 65535, and lists that are no free lists.
func TestGiveNot(t *testing.T) {
	const least, most = math.MinInt, math.MaxInt
	wrong := runs(3, 0, 3, -1, 3, least, 0, 0, -1, 1, -1, 2, -1, 0, -5, 3, least, 1, least, most, least, least,
		0, 65537, 1, 65536, 65535, 2, 65536, 1, 65536, 0, 65537, -1, most, 1, most, most, 0, most, 1, most, 7, most, most, least)
	for _, l := range [][]api.Run{nil, runs(0, 1), runs(5, 3, 12, 2), runs(0, 65536), runs(65534, 1), runs(65535, 1)} {
		for _, r := range wrong {
			givesNot(t, l, r)
		}
	}
	for _, l := range others() {
		for _, r := range append(wrong, runs(0, 1, 3, 1, 30, 2, 65535, 1, 0, 65536)...) {
			givesNot(t, l, r)
		}
	}
}

// ends are the numbers at which the tests lay small sets of sectors: both ends of a disk, and a place between.
func ends(n int) []int { return []int{0, 700, api.MaxSectors - n} }

// maskList is the free list of the sectors base + i for the bits i of mask.
func maskList(base, mask int) []api.Run {
	var l []api.Run
	for i := range 20 {
		if mask>>i&1 == 0 {
			continue
		}
		if i > 0 && mask>>(i-1)&1 == 1 {
			l[len(l)-1].N++
		} else {
			l = append(l, api.Run{At: base + i, N: 1})
		}
	}
	return l
}

// P6.2, P6.4: all sets of up to 9 sectors, and all numbers of them: what is taken are the least ones.
func TestTakeOfAllSmallSets(t *testing.T) {
	const width = 9
	for _, base := range ends(width) {
		for mask := range 1 << width {
			l := maskList(base, mask)
			takesNot(t, l, -1)
			taken, left := 0, mask
			for n := 0; ; n++ {
				takes(t, l, n, maskList(base, taken), maskList(base, left))
				if left == 0 {
					takesNot(t, l, n+1)
					break
				}
				taken |= left & -left
				left &= left - 1
			}
		}
	}
}

// P6.2: all sets of up to 9 sectors, and all runs there and about.
func TestGiveToAllSmallSets(t *testing.T) {
	const width = 9
	for _, base := range ends(width) {
		for mask := range 1 << width {
			l := maskList(base, mask)
			for at := range width {
				for n := range width - at + 1 {
					r := api.Run{At: base + at, N: n}
					more := (1<<n - 1) << at
					if n == 0 || mask&more != 0 {
						givesNot(t, l, r)
					} else {
						gives(t, l, r, maskList(base, mask|more))
					}
				}
			}
		}
	}
	for mask := range 1 << width {
		givesNot(t, maskList(0, mask), api.Run{At: -1, N: 1})
		givesNot(t, maskList(0, mask), api.Run{At: -1, N: 2})
		givesNot(t, maskList(api.MaxSectors-width, mask), api.Run{At: 65536, N: 1})
		givesNot(t, maskList(api.MaxSectors-width, mask), api.Run{At: 65535, N: 2})
	}
}
