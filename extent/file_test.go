package extent_test

import (
	"math"
	"slices"
	"strconv"
	"testing"

	"scrinium/api"
	"scrinium/extent"
)

// spot is a file's sector: its number, and by which of the file's runs it is there.
type spot struct{ at, run int }

// spots are a file's sectors, in order.
func spots(l []api.Run) []spot {
	var all []spot
	for i, r := range l {
		for at := r.At; at < r.At+r.N; at++ {
			all = append(all, spot{at, i})
		}
	}
	return all
}

// runsOf is the list of sectors, of which those belong together that one run had.
func runsOf(all []spot) []api.Run {
	var l []api.Run
	for i, s := range all {
		if i > 0 && all[i-1].run == s.run {
			l[len(l)-1].N++
		} else {
			l = append(l, api.Run{At: s.at, N: 1})
		}
	}
	return l
}

// within is a number that is kept from 0 to most.
func within(n, most int) int { return min(max(n, 0), most) }

// someFiles are lists of all kinds: runs that touch, overlap, fall, or are there twice.
func someFiles() [][]api.Run {
	low := rows(near([]int{0, 1, 2, 4, 7}, []int{1, 2, 3}), 3)
	return append(low, rows(runs(65535, 1, 65534, 2, 65530, 4, 65534, 1, 0, 1), 3)...)
}

// isFileOf fails if a file's list tells otherwise than its sectors, one by one, at every place.
func isFileOf(t *testing.T, l []api.Run) {
	t.Helper()
	all := spots(l)
	isSectors(t, "All", l, all)
	for n := -2; n <= len(all)+2; n++ {
		i := within(n, len(all))
		first, others := extent.Cut(l, n)
		isRuns(t, "Cut, the first ones", first, runsOf(all[:i]))
		isRuns(t, "Cut, the others", others, runsOf(all[i:]))
		for m := -2; m <= len(all)+2; m++ {
			want := runsOf(all[i : i+within(m, len(all)-i)])
			if got := extent.Rest(l, n, m); !slices.Equal(got, want) {
				t.Fatalf("Rest(%v, %d, %d): %v, want %v", l, n, m, got, want)
			}
		}
	}
}

// isSectors fails if a list has other sectors than those.
func isSectors(t *testing.T, what string, l []api.Run, want []spot) {
	t.Helper()
	got := extent.All(l)
	if !slices.EqualFunc(got, want, func(at int, s spot) bool { return at == s.at }) {
		t.Fatalf("%s of %v: %v, want %v", what, l, got, want)
	}
}

// P6.3: files told, and asked and cut at every place.
func TestFiles(t *testing.T) {
	for _, l := range someFiles() {
		isFileOf(t, l)
	}
}

// P6.3: the greatest and the least numbers are behind the end, and below 0.
func TestFilesAtGreatPlaces(t *testing.T) {
	const least, most = math.MinInt, math.MaxInt
	l := runs(9, 2, 2, 3)
	isRuns(t, "Rest from the least place", extent.Rest(l, least, 3), runs(9, 2, 2, 1))
	isRuns(t, "Rest, all", extent.Rest(l, least, most), l)
	isRuns(t, "Rest, from 0 on", extent.Rest(l, 0, most), l)
	isRuns(t, "Rest, from 1 on", extent.Rest(l, 1, most), runs(10, 1, 2, 3))
	isRuns(t, "Rest, none", extent.Rest(l, 1, least), nil)
	isRuns(t, "Rest, none from the least place", extent.Rest(l, least, -1), nil)
	isRuns(t, "Rest behind the end", extent.Rest(l, most, most), nil)
	isRuns(t, "Rest of nothing", extent.Rest(nil, least, most), nil)
	for n, want := range map[int][2][]api.Run{least: {nil, l}, -1: {nil, l}, most: {l, nil}, 6: {l, nil}} {
		first, others := extent.Cut(l, n)
		isRuns(t, "Cut at "+strconv.Itoa(n), first, want[0])
		isRuns(t, "Cut at "+strconv.Itoa(n), others, want[1])
	}
}

// P6.3: a file that has more runs than a disk has sectors, and one that has all of a disk's.
func TestGreatFiles(t *testing.T) {
	whole := runs(0, api.MaxSectors)
	all := extent.All(whole)
	if len(all) != api.MaxSectors || all[0] != 0 || all[65535] != 65535 {
		t.Errorf("All: %d sectors", len(all))
	}
	isRuns(t, "Rest", extent.Rest(whole, 65535, 9), runs(65535, 1))
	long := slices.Repeat(runs(7, 2, 9, 1, 0, 1), 30000)
	isSectors(t, "All", long, spots(long))
	isRuns(t, "Rest", extent.Rest(long, 60001, 5), runs(8, 1, 9, 1, 0, 1, 7, 2))
	first, others := extent.Cut(long, 60003)
	isRuns(t, "Cut, the first ones", first, long[:45002])
	isRuns(t, "Cut, the others", others, long[45002:])
	isRuns(t, "Join", extent.Join(first, others), long)
}

// P6.3: runs that touch stay two, unless they are the last one of a and the first one of b.
func TestJoin(t *testing.T) {
	for _, c := range [][3][]api.Run{
		{nil, nil, nil},
		{runs(2, 3), nil, runs(2, 3)},
		{nil, runs(2, 3), runs(2, 3)},
		{runs(2, 3), runs(5, 1), runs(2, 4)},
		{runs(2, 3), runs(6, 1), runs(2, 3, 6, 1)},
		{runs(2, 3), runs(4, 1), runs(2, 3, 4, 1)},
		{runs(5, 1), runs(2, 3), runs(5, 1, 2, 3)},
		{runs(2, 3), runs(2, 3), runs(2, 3, 2, 3)},
		{runs(2, 3, 5, 1), runs(6, 2, 8, 1), runs(2, 3, 5, 3, 8, 1)},
		{runs(2, 3, 9, 1), runs(10, 2, 5, 1), runs(2, 3, 9, 3, 5, 1)},
		{runs(2, 3, 9, 1), runs(5, 1, 10, 2), runs(2, 3, 9, 1, 5, 1, 10, 2)},
		{runs(9, 1, 2, 3), runs(10, 2, 5, 1), runs(9, 1, 2, 3, 10, 2, 5, 1)},
		{runs(2, 3, 5, 1), nil, runs(2, 3, 5, 1)},
		{nil, runs(2, 3, 5, 1), runs(2, 3, 5, 1)},
		{runs(0, 65535), runs(65535, 1), runs(0, 65536)},
		{runs(65535, 1), runs(0, 1), runs(65535, 1, 0, 1)},
	} {
		isRuns(t, "Join", extent.Join(c[0], c[1]), c[2])
	}
}

// P6.3: all pairs of small lists.
func TestJoinOfAllSmallLists(t *testing.T) {
	some := rows(near([]int{0, 1, 2, 3}, []int{1, 2}), 2)
	one := 0
	for _, a := range some {
		for _, b := range some {
			all := spots(a)
			for _, s := range spots(b) {
				s.run += len(a)
				if len(a) > 0 && s.run == len(a) && b[0].At == a[len(a)-1].At+a[len(a)-1].N {
					s.run--
					one++
				}
				all = append(all, s)
			}
			isRuns(t, "Join", extent.Join(a, b), runsOf(all))
		}
	}
	if one < 100 {
		t.Errorf("too few runs are one: %d", one)
	}
}

// P6.4: what Cut tells, joined, has the sectors that the list had, at every place.
func TestCutAndJoined(t *testing.T) {
	for _, l := range someFiles() {
		all := spots(l)
		for n := -1; n <= len(all)+1; n++ {
			first, others := extent.Cut(l, n)
			isSectors(t, "Join of Cut", extent.Join(first, others), all)
		}
	}
}

// P1, P6.3: of lists that are no file's nothing is told, however many sectors they claim to have.
func TestOfOtherListsNothingIsTold(t *testing.T) {
	const least, most = math.MinInt, math.MaxInt
	good := runs(4, 2)
	for _, r := range runs(2, 0, 2, -1, -1, 1, -1, 3, 65535, 2, 65536, 1, 0, 65537, 0, most, 1, most, most, most, most, 1, least, most, least, least, 0, least) {
		for _, l := range [][]api.Run{{r}, {r, good[0]}, {good[0], r}, {good[0], r, good[0]}} {
			if got := extent.All(l); len(got) != 0 {
				t.Fatalf("All(%v): %d sectors", l, len(got))
			}
			isRuns(t, "Join", extent.Join(l, good), nil)
			isRuns(t, "Join", extent.Join(good, l), nil)
			isRuns(t, "Join", extent.Join(l, nil), nil)
			for _, n := range []int{least, -1, 0, 1, 2, 3, 70000, most} {
				first, others := extent.Cut(l, n)
				isRuns(t, "Cut, the first ones", first, nil)
				isRuns(t, "Cut, the others", others, nil)
				isRuns(t, "Rest", extent.Rest(l, n, most), nil)
				isRuns(t, "Rest", extent.Rest(l, 0, n), nil)
			}
		}
	}
}
