package window_test

import (
	"fmt"
	"math"
	"math/big"
	"math/rand/v2"
	"slices"
	"testing"

	"scrinium/api"
	"scrinium/window"
)

// most is the greatest time.
const most = 1 << 50

// called tells a call.
func called(name string, numbers ...int) string { return name + fmt.Sprint(numbers) }

// isBool, isNumber and isTime fail if something else was told.
func isBool(t *testing.T, what string, got, want bool) {
	t.Helper()
	if got != want {
		t.Errorf("%s: %v", what, got)
	}
}

func isNumber(t *testing.T, what string, got, want int) {
	t.Helper()
	if got != want {
		t.Errorf("%s: %d, want %d", what, got, want)
	}
}

func isTime(t *testing.T, what string, got int, ok bool, want int, wanted bool) {
	t.Helper()
	if got != want || ok != wanted {
		t.Errorf("%s: %d, %v, want %d, %v", what, got, ok, want, wanted)
	}
}

// isTick fails if the clock goes on otherwise.
func isTick(t *testing.T, now, to, want int, wanted api.Errno) {
	t.Helper()
	if got, err := window.Tick(now, to); got != want || err != wanted {
		t.Errorf("%s: %d, %v, want %d, %v", called("Tick", now, to), got, err, want, wanted)
	}
}

// may tells whether n is a time, a window or a term.
func may(n int) bool { return n >= 0 && n <= most }

// after is what Begin (of no more widths, no term), End (of one more) and Due (of one more, and a term) must tell, in the chapter's words, by numbers without bounds.
func after(w, more, width, term int) (int, bool) {
	if !may(w) || !may(width) || width == 0 || !may(term) {
		return 0, false
	}
	n := big.NewInt(int64(w))
	n.Add(n, big.NewInt(int64(more)))
	n.Mul(n, big.NewInt(int64(width)))
	n.Add(n, big.NewInt(int64(term)))
	if n.Cmp(big.NewInt(most)) > 0 {
		return 0, false
	}
	return int(n.Int64()), true
}

// windowOf is what Of must tell, in the chapter's words.
func windowOf(to, width int) int {
	if !may(to) || !may(width) || width == 0 {
		return -1
	}
	return to / width
}

// areWindows fails if Of, Begin, End or Due tells otherwise than the chapter's words.
func areWindows(t *testing.T, n, width, term int) {
	t.Helper()
	isNumber(t, called("Of", n, width), window.Of(n, width), windowOf(n, width))
	got, ok := window.Begin(n, width)
	want, wanted := after(n, 0, width, 0)
	isTime(t, called("Begin", n, width), got, ok, want, wanted)
	got, ok = window.End(n, width)
	want, wanted = after(n, 1, width, 0)
	isTime(t, called("End", n, width), got, ok, want, wanted)
	got, ok = window.Due(n, width, term)
	want, wanted = after(n, 1, width, term)
	isTime(t, called("Due", n, width, term), got, ok, want, wanted)
}

// areAsked fails if Closed or Expired tells otherwise than the chapter's words.
func areAsked(t *testing.T, w, width, term, now int) {
	t.Helper()
	end, ok := after(w, 1, width, 0)
	isBool(t, called("Closed", w, width, now), window.Closed(w, width, now), ok && may(now) && end <= now)
	due, ok := after(w, 1, width, term)
	isBool(t, called("Expired", w, width, term, now), window.Expired(w, width, term, now), ok && may(now) && due <= now)
}

// none are numbers that are no times, among them such as a sum or a product would bring back among the times.
func none() []int {
	return []int{-1, -2, -10, -most, -most - 1, most + 1, most + 2, 2 * most, 1 << 60, 1 << 62, math.MaxInt - 1, math.MaxInt, math.MinInt, math.MinInt + 1, math.MinInt + most}
}

// edges are times at the edges of numbers with many bits, and the first and the last ones.
func edges() []int {
	l := []int{0, 1, 2, 3, 5, 10, 60, 1000, 86400, most / 3, most/2 - 1, most/2 + 1, most - 10, most - 3, most - 2, most - 1, most}
	for i := 3; i < 50; i += 4 {
		p := 1 << i
		l = append(l, p-1, p, p+1, most/p-1, most/p+1)
	}
	slices.Sort(l)
	return slices.Compact(l)
}

// around are a time and those beside it, times or none.
func around(n int) []int { return []int{n - 1, n, n + 1} }

// picker draws numbers, the same ones in each run.
type picker struct{ *rand.Rand }

func newPicker() picker { return picker{rand.New(rand.NewPCG(14, 1))} }

// time is one with about as many bits as it is drawn, from 0 to the greatest one.
func (p picker) time() int { return p.IntN(1<<p.IntN(51) + 1) }

// width is a time that is not 0.
func (p picker) width() int { return max(p.time(), 1) }

// number is a time, most often, or one beside the last one, or any.
func (p picker) number() int {
	switch p.IntN(12) {
	case 0:
		return most - 2 + p.IntN(5)
	case 1:
		return int(p.Uint64())
	case 2:
		return -p.time()
	}
	return p.time()
}
