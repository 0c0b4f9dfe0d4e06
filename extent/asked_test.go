package extent_test

import (
	"math"
	"slices"
	"testing"

	"scrinium/api"
	"scrinium/extent"
)

// runs is a list of pairs of numbers: where a run begins, how many sectors it has.
func runs(pairs ...int) []api.Run {
	var l []api.Run
	for i := 0; i < len(pairs); i += 2 {
		l = append(l, api.Run{At: pairs[i], N: pairs[i+1]})
	}
	return l
}

func isRuns(t *testing.T, what string, got, want []api.Run) {
	t.Helper()
	if !slices.Equal(got, want) {
		t.Fatalf("%s: %v, want %v", what, got, want)
	}
}

// isTotal and isHas fail if a list tells otherwise.
func isTotal(t *testing.T, l []api.Run, want int) {
	t.Helper()
	if got := extent.Total(l); got != want {
		t.Errorf("Total(%v): %d, want %d", l, got, want)
	}
}

func isHas(t *testing.T, l []api.Run, at int, want bool) {
	t.Helper()
	if got := extent.Has(l, at); got != want {
		t.Errorf("Has(%v, %d): %v", l, at, got)
	}
}

// rows are all lists of up to n of some runs.
func rows(some []api.Run, n int) [][]api.Run {
	all := [][]api.Run{nil}
	last := all
	for range n {
		var next [][]api.Run
		for _, l := range last {
			for _, r := range some {
				next = append(next, append(slices.Clone(l), r))
			}
		}
		all = append(all, next...)
		last = next
	}
	return all
}

// near are all runs that begin at one of some places and have one of some numbers of sectors.
func near(places, numbers []int) []api.Run {
	var l []api.Run
	for _, at := range places {
		for _, n := range numbers {
			l = append(l, api.Run{At: at, N: n})
		}
	}
	return l
}

// listIn is the free list of sectors, found from one sector to the next, from a first one to a last one.
func listIn(free map[int]bool, first, last int) []api.Run {
	var l []api.Run
	for at := first; at <= last; at++ {
		if free[at] && free[at-1] && len(l) > 0 {
			l[len(l)-1].N++
		} else if free[at] {
			l = append(l, api.Run{At: at, N: 1})
		}
	}
	return l
}

// sectorsOf is the set of a list's sectors.
func sectorsOf(l []api.Run) map[int]bool {
	free := map[int]bool{}
	for _, r := range l {
		for i := range max(r.N, 0) {
			free[r.At+i] = true
		}
	}
	return free
}

// P6.1: lists that are free lists.
func TestCheckOfFreeLists(t *testing.T) {
	for _, l := range [][]api.Run{
		nil, {}, runs(0, 1), runs(65535, 1), runs(0, 65536), runs(1, 65535), runs(0, 65535), runs(2, 3, 9, 1), runs(0, 1, 2, 1),
		runs(0, 1, 65535, 1), runs(0, 65534, 65535, 1), runs(0, 1, 2, 65534), runs(0, 5, 6, 5, 12, 5), runs(2, 3, 6, 1),
	} {
		if err := extent.Check(l); err != api.OK {
			t.Errorf("Check(%v): %v", l, err)
		}
	}
}

// P6.1: lists that just are not, and such as are far from it.
func TestCheckOfOtherLists(t *testing.T) {
	for _, l := range [][]api.Run{
		runs(2, 0), runs(2, -1), runs(2, math.MinInt), runs(0, 0), runs(-1, 1), runs(-1, 2), runs(-1, 65536), runs(math.MinInt, 1), runs(math.MinInt, math.MaxInt),
		runs(math.MinInt, math.MinInt), runs(0, 65537), runs(1, 65536), runs(65535, 2), runs(65536, 1), runs(65536, 0), runs(65537, -1), runs(math.MaxInt, 1),
		runs(math.MaxInt, math.MaxInt), runs(1, math.MaxInt), runs(0, math.MaxInt), runs(math.MaxInt, math.MinInt),
		runs(2, 3, 5, 1), runs(2, 3, 4, 1), runs(2, 3, 2, 3), runs(2, 3, 3, 1), runs(2, 3, 1, 5), runs(9, 1, 2, 3), runs(2, 1, 1, 1), runs(2, 1, 0, 1),
		runs(0, 65535, 65535, 1), runs(0, 1, 2, 65535), runs(0, 1, 65535, 2), runs(0, 65536, 65537, 1), runs(0, 1, 3, 0), runs(3, 0, 5, 1), runs(0, 1, 3, -2, 9, 1),
		runs(0, 1, 4, 2, 2, 1), runs(0, 1, 4, 2, 6, 1), runs(0, 1, -5, 1), runs(0, 1, 5, math.MaxInt, 7, 1),
	} {
		if err := extent.Check(l); err != api.ErrArg {
			t.Errorf("Check(%v): %v, want %v", l, err, api.ErrArg)
		}
	}
}

// P6.1: a list is a free list just if it is the one of its sectors, and has none below 0 or above 65535.
func TestCheckOfAllSmallLists(t *testing.T) {
	low := rows(near([]int{-1, 0, 1, 2, 3, 4, 5, 6}, []int{-1, 0, 1, 2, 3}), 3)
	high := rows(near([]int{65532, 65533, 65534, 65535, 65536}, []int{0, 1, 2}), 2)
	isCheckOf(t, low, 0, 20)
	isCheckOf(t, high, 65500, 65535)
}

// isCheckOf fails if Check is otherwise of lists whose sectors, if they are free lists, lie between two.
func isCheckOf(t *testing.T, all [][]api.Run, first, last int) {
	t.Helper()
	right := 0
	for _, l := range all {
		want := api.ErrArg
		if slices.Equal(listIn(sectorsOf(l), first, last), l) {
			want = api.OK
			right++
		}
		if err := extent.Check(l); err != want {
			t.Fatalf("Check(%v): %v, want %v", l, err, want)
		}
	}
	if right < 10 {
		t.Errorf("too few free lists: %d", right)
	}
}

// P6.1: Total of any runs, whether or not they overlap, or lie where no sectors are.
func TestTotal(t *testing.T) {
	isTotal(t, nil, 0)
	isTotal(t, runs(2, 3, 9, 2), 5)
	isTotal(t, runs(0, 65536), 65536)
	isTotal(t, runs(5, 0), 0)
	isTotal(t, runs(5, -3), 0)
	isTotal(t, runs(5, -3, 7, 2, 7, 0, 1, math.MinInt), 2)
	isTotal(t, runs(1, 4, 1, 4, 2, 1), 9)
	isTotal(t, runs(-7, 2, math.MinInt, 3, math.MaxInt, 4, 65536, 5), 14)
	isTotal(t, slices.Repeat(runs(0, 65536), 1000), 65536000)
}

// P6.1: Total tells at most 2^50, of whatever numbers.
func TestTotalAtMost(t *testing.T) {
	const most = 1 << 50
	isTotal(t, runs(0, most-1), most-1)
	isTotal(t, runs(0, most), most)
	isTotal(t, runs(0, most+1), most)
	isTotal(t, runs(0, math.MaxInt), most)
	isTotal(t, runs(0, most-1, 7, 1), most)
	isTotal(t, runs(0, most-2, 7, 1), most-1)
	isTotal(t, runs(0, most-1, 7, 2), most)
	isTotal(t, runs(0, most, 0, -1), most)
	isTotal(t, runs(0, math.MaxInt, 0, math.MinInt), most)
	isTotal(t, runs(0, math.MaxInt, 0, 1), most)
	isTotal(t, runs(0, 1, 0, math.MaxInt), most)
	isTotal(t, runs(0, math.MaxInt, 0, math.MaxInt), most)
	isTotal(t, slices.Repeat(runs(math.MaxInt, math.MaxInt), 70000), most)
	isTotal(t, slices.Repeat(runs(0, most/8), 7), most/8*7)
	isTotal(t, slices.Repeat(runs(0, most/8), 9), most)
}

// P6.1: Has of all small lists, whatever runs they have.
func TestHasOfAllSmallLists(t *testing.T) {
	for _, l := range rows(near([]int{-2, 0, 1, 3}, []int{-1, 0, 1, 2, 3}), 3) {
		free := sectorsOf(l)
		for at := -4; at < 9; at++ {
			isHas(t, l, at, free[at])
		}
	}
}

// P6.1: Has of the greatest and the least numbers.
func TestHasOfGreatNumbers(t *testing.T) {
	const least, most = math.MinInt, math.MaxInt
	for _, c := range []struct {
		r      api.Run
		in, no []int
	}{
		{api.Run{At: 0, N: 65536}, []int{0, 65535}, []int{-1, 65536, least, most}},
		{api.Run{At: least, N: most}, []int{least, least + 1, -2, -100}, []int{-1, 0, 1, most}},
		{api.Run{At: least, N: 1}, []int{least}, []int{least + 1, -1, 0, most}},
		{api.Run{At: most, N: 1}, []int{most}, []int{most - 1, 0, -1, least}},
		{api.Run{At: most, N: most}, []int{most}, []int{most - 1, 0, -1, -2, least, least + 1}},
		{api.Run{At: most - 2, N: 2}, []int{most - 2, most - 1}, []int{most, most - 3, least, 0}},
		{api.Run{At: -1, N: most}, []int{-1, 0, most - 2}, []int{-2, most, most - 1, least}},
		{api.Run{At: 0, N: most}, []int{0, 1, most - 1}, []int{-1, most, least}},
		{api.Run{At: 1, N: most}, []int{1, most - 1, most}, []int{0, -1, least}},
		{api.Run{At: -5, N: 10}, []int{-5, -1, 0, 4}, []int{-6, 5, least, most}},
		{api.Run{At: least, N: least}, nil, []int{least, least + 1, -1, 0, 1, most}},
		{api.Run{At: most, N: least}, nil, []int{least, -1, 0, 1, most - 1, most}},
		{api.Run{At: 0, N: least}, nil, []int{least, -1, 0, 1, most}},
		{api.Run{At: 0, N: -1}, nil, []int{least, -2, -1, 0, 1, most}},
		{api.Run{At: least, N: 0}, nil, []int{least, 0, most}},
	} {
		for _, l := range [][]api.Run{{c.r}, {{At: 3, N: 0}, c.r, {At: 3, N: -7}}} {
			for _, at := range c.in {
				isHas(t, l, at, true)
			}
			for _, at := range c.no {
				isHas(t, l, at, false)
			}
		}
	}
}

// P6.1: each run of a list is asked, the first and the last one too.
func TestHasInAnyRun(t *testing.T) {
	l := runs(9, 2, 2, 3, 100, 1)
	for at := -1; at < 120; at++ {
		isHas(t, l, at, at == 9 || at == 10 || at >= 2 && at < 5 || at == 100)
	}
	isHas(t, nil, 0, false)
	isHas(t, runs(), math.MinInt, false)
}
