package window_test

import (
	"math"
	"testing"

	"scrinium/window"
)

// P14.1: the chapter's examples.
func TestExamplesOfWindows(t *testing.T) {
	isNumber(t, "Of", window.Of(25, 10), 2)
	at, ok := window.Begin(2, 10)
	isTime(t, "Begin", at, ok, 20, true)
	at, ok = window.End(2, 10)
	isTime(t, "End", at, ok, 30, true)
	at, ok = window.Due(2, 10, 5)
	isTime(t, "Due", at, ok, 35, true)
}

// P14.1: windows from the first time on, each time one behind the other.
func TestOfFirstTimes(t *testing.T) {
	for width := 1; width < 40; width++ {
		w, left := 0, width
		for to := range 400 {
			if left == 0 {
				w, left = w+1, width
			}
			isNumber(t, called("Of", to, width), window.Of(to, width), w)
			left--
		}
	}
}

// P14.1: the last time, and the widths that are just there.
func TestOfLastTimes(t *testing.T) {
	for _, c := range [][3]int{
		{most, 1, most}, {most - 1, 1, most - 1}, {most, 2, most / 2}, {most - 1, 2, most/2 - 1}, {most, 3, 375299968947541}, {most, most, 1}, {most - 1, most, 0},
		{most, most - 1, 1}, {most - 1, most - 1, 1}, {most - 2, most - 1, 0}, {0, most, 0}, {0, 1, 0}, {most, most / 2, 2}, {most - 1, most / 2, 1},
	} {
		isNumber(t, called("Of", c[0], c[1]), window.Of(c[0], c[1]), c[2])
	}
}

// P14.1: what is no time has no window, nor has a time by what is no width.
func TestOfNone(t *testing.T) {
	for _, n := range none() {
		for _, good := range append(edges()[1:], none()...) {
			isNumber(t, called("Of", n, good), window.Of(n, good), -1)
			isNumber(t, called("Of", good, n), window.Of(good, n), -1)
		}
		isNumber(t, called("Of", 0, n), window.Of(0, n), -1)
		isNumber(t, called("Of", n, 0), window.Of(n, 0), -1)
	}
	for _, to := range edges() {
		isNumber(t, called("Of", to, 0), window.Of(to, 0), -1)
	}
}

// P14.1: first windows, added up width by width.
func TestFirstWindows(t *testing.T) {
	for width := 1; width < 40; width++ {
		first := 0
		for w := range 60 {
			at, ok := window.Begin(w, width)
			isTime(t, called("Begin", w, width), at, ok, first, true)
			first += width
			at, ok = window.End(w, width)
			isTime(t, called("End", w, width), at, ok, first, true)
			for term := range 30 {
				at, ok = window.Due(w, width, term)
				isTime(t, called("Due", w, width, term), at, ok, first+term, true)
			}
		}
	}
}

// P14.1: the last time may be a Begin, an End and a Due still; the one behind it may not.
func TestLastWindows(t *testing.T) {
	for _, c := range []struct {
		w, width, begin, end int
		begins, ends         bool
		spare                int
	}{
		{0, 1, 0, 1, true, true, most - 1},
		{most - 2, 1, most - 2, most - 1, true, true, 1},
		{most - 1, 1, most - 1, most, true, true, 0},
		{most, 1, most, 0, true, false, 0},
		{0, most, 0, most, true, true, 0},
		{1, most, most, 0, true, false, 0},
		{2, most, 0, 0, false, false, 0},
		{0, most - 1, 0, most - 1, true, true, 1},
		{1, most - 1, most - 1, 0, true, false, 0},
		{2, most - 1, 0, 0, false, false, 0},
		{most/2 - 1, 2, most - 2, most, true, true, 0},
		{most / 2, 2, most, 0, true, false, 0},
		{most/2 + 1, 2, 0, 0, false, false, 0},
		{375299968947540, 3, 1125899906842620, 1125899906842623, true, true, 1},
		{375299968947541, 3, 1125899906842623, 0, true, false, 0},
		{375299968947542, 3, 0, 0, false, false, 0},
		{1<<25 - 1, 1 << 25, most - 1<<25, most, true, true, 0},
		{1 << 25, 1 << 25, most, 0, true, false, 0},
		{1<<25 + 1, 1 << 25, 0, 0, false, false, 0},
		{most, most, 0, 0, false, false, 0},
		{most, 2, 0, 0, false, false, 0},
	} {
		at, ok := window.Begin(c.w, c.width)
		isTime(t, called("Begin", c.w, c.width), at, ok, c.begin, c.begins)
		at, ok = window.End(c.w, c.width)
		isTime(t, called("End", c.w, c.width), at, ok, c.end, c.ends)
		for _, term := range []int{0, 1, c.spare - 1, c.spare, c.spare + 1, most - 1, most} {
			at, ok = window.Due(c.w, c.width, term)
			if c.ends && term >= 0 && term <= c.spare {
				isTime(t, called("Due", c.w, c.width, term), at, ok, c.end+term, true)
			} else {
				isTime(t, called("Due", c.w, c.width, term), at, ok, 0, false)
			}
		}
	}
}

// P14.1: products that are above all ints, and that come out as times where they are not held against that.
func TestGreatProducts(t *testing.T) {
	for _, c := range [][2]int{
		{1 << 32, 1 << 32}, {1<<32 - 1, 1 << 32}, {1 << 40, 1 << 24}, {1<<40 - 1, 1 << 24}, {1 << 24, 1 << 40}, {1 << 31, 1 << 32}, {1<<31 - 1, 1 << 32}, {1 << 50, 1 << 14},
		{274177, 67280421310721}, {274176, 67280421310721}, {67280421310721, 274177}, {67280421310720, 274177}, {most, most}, {most - 1, most}, {most, most - 1}, {most - 1, most - 1},
	} {
		for _, term := range []int{0, 1, most} {
			at, ok := window.Begin(c[0], c[1])
			isTime(t, called("Begin", c[0], c[1]), at, ok, 0, false)
			at, ok = window.End(c[0], c[1])
			isTime(t, called("End", c[0], c[1]), at, ok, 0, false)
			at, ok = window.Due(c[0], c[1], term)
			isTime(t, called("Due", c[0], c[1], term), at, ok, 0, false)
		}
	}
}

// P14.1: what is no window, no width or no term has no times, also where the sum would be one.
func TestWindowsOfNone(t *testing.T) {
	isNone := func(w, width, term int) {
		at, ok := window.Due(w, width, term)
		isTime(t, called("Due", w, width, term), at, ok, 0, false)
		if may(term) {
			at, ok = window.Begin(w, width)
			isTime(t, called("Begin", w, width), at, ok, 0, false)
			at, ok = window.End(w, width)
			isTime(t, called("End", w, width), at, ok, 0, false)
		}
	}
	for _, n := range none() {
		for _, good := range edges() {
			isNone(n, good, good)
			isNone(good, n, good)
			isNone(good, good, n)
			isNone(n, good, 0)
			isNone(good, n, 0)
			isNone(0, good, n)
			isNone(good, 1, n)
		}
		for _, other := range none() {
			isNone(n, other, 0)
			isNone(n, 1, other)
			isNone(0, n, other)
			isNone(n, n, other)
		}
	}
	for _, w := range append(edges(), none()...) {
		isNone(w, 0, 0)
		isNone(w, 0, 1)
	}
}

// P14.1: a term that is none asks nothing of Begin and End, nor has a great one an effect on these.
func TestTermsAreOfDueAlone(t *testing.T) {
	for _, term := range none() {
		areWindows(t, 2, 10, term)
	}
	areWindows(t, 2, 10, most-29)
	areWindows(t, 2, 10, most-30)
}

// P14.1: in the chapter's words, by numbers without bounds, at all edges.
func TestWindowsAtTheEdges(t *testing.T) {
	numbers := append(edges(), none()...)
	for _, n := range numbers {
		for _, width := range numbers {
			for _, term := range []int{0, 1, 86400, most / 2, most - 1, most, most + 1, -1, math.MaxInt, math.MinInt} {
				areWindows(t, n, width, term)
			}
		}
	}
}

// P14.1: the same, where the times of a window are just those that there are, or just more.
func TestWindowsAtTheEnd(t *testing.T) {
	for _, width := range edges()[1:] {
		for _, w := range around(most / width) {
			for _, n := range around(w) {
				end, _ := after(n, 1, width, 0)
				for _, term := range around(most - end) {
					areWindows(t, n, width, term)
				}
			}
		}
	}
}

// P14.1: the same, by chance.
func TestWindowsByChance(t *testing.T) {
	draw := newPicker()
	for range 200000 {
		areWindows(t, draw.number(), draw.number(), draw.number())
	}
}

// P14.1, P1: whatever the numbers are.
func FuzzWindows(f *testing.F) {
	f.Add(25, 10, 5)
	f.Add(0, 0, 0)
	f.Add(most, 1, most)
	f.Add(most-1, 1, 0)
	f.Add(274176, 67280421310721, 0)
	f.Add(math.MinInt, math.MaxInt, math.MaxInt)
	f.Fuzz(func(t *testing.T, n, width, term int) {
		areWindows(t, n, width, term)
		n, width, term = int(uint(n)%(most+1)), int(uint(width)%most)+1, int(uint(term)%(most+1))
		areWindows(t, n, width, term)
		areWindows(t, n%(most/width+1), width, term)
	})
}
