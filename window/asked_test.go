package window_test

import (
	"math"
	"slices"
	"testing"

	"scrinium/api"
	"scrinium/window"
)

// P14.2, P14.3: the chapter's examples, and the document's.
func TestExamplesOfAsked(t *testing.T) {
	isBool(t, "Expired at 34", window.Expired(2, 10, 5, 34), false)
	isBool(t, "Expired at 35", window.Expired(2, 10, 5, 35), true)
	isTick(t, 5, 4, 5, api.ErrClock)
	isBool(t, "Closed at 10", window.Closed(0, 10, 10), true)
	isBool(t, "Expired at 15", window.Expired(0, 10, 5, 15), true)
}

// P14.2: first windows, at each time around their ends.
func TestFirstAsked(t *testing.T) {
	for width := 1; width < 12; width++ {
		for w := range 8 {
			end := 0
			for range w + 1 {
				end += width
			}
			for now := range end + 12 {
				isBool(t, called("Closed", w, width, now), window.Closed(w, width, now), now >= end)
				for term := range 10 {
					isBool(t, called("Expired", w, width, term, now), window.Expired(w, width, term, now), now >= end+term)
				}
			}
		}
	}
}

// P14.2: at the last time a window may be closed and expired still; a window without an End is never closed, and one without a Due never expired.
func TestLastAsked(t *testing.T) {
	for _, c := range []struct {
		w, width, term, now int
		closed, expired     bool
	}{
		{most - 1, 1, 0, most, true, true},
		{most - 1, 1, 0, most - 1, false, false},
		{most - 1, 1, 1, most, true, false},
		{most - 2, 1, 1, most, true, true},
		{most - 2, 1, 1, most - 1, true, false},
		{most, 1, 0, most, false, false},
		{0, most, 0, most, true, true},
		{0, most, 0, most - 1, false, false},
		{1, most, 0, most, false, false},
		{0, most - 1, 1, most, true, true},
		{0, most - 1, 2, most, true, false},
		{0, 1, most - 1, most, true, true},
		{0, 1, most, most, true, false},
		{0, 1, most - 1, most - 1, true, false},
		{most, most, most, most, false, false},
		{1<<32 - 1, 1 << 32, 0, most, false, false},
		{274176, 67280421310721, 0, most, false, false},
	} {
		isBool(t, called("Closed", c.w, c.width, c.now), window.Closed(c.w, c.width, c.now), c.closed)
		isBool(t, called("Expired", c.w, c.width, c.term, c.now), window.Expired(c.w, c.width, c.term, c.now), c.expired)
	}
}

// P14.2: at what is no time nothing is closed or expired; nor is what is no window, or has no width; nor is anything expired whose term is none, though it may be closed.
func TestAskedOfNone(t *testing.T) {
	for _, n := range none() {
		for _, now := range append(edges(), none()...) {
			isBool(t, called("Closed", 2, 10, n), window.Closed(2, 10, n), false)
			isBool(t, called("Expired", 2, 10, 5, n), window.Expired(2, 10, 5, n), false)
			isBool(t, called("Closed", n, 10, now), window.Closed(n, 10, now), false)
			isBool(t, called("Expired", n, 10, 5, now), window.Expired(n, 10, 5, now), false)
			isBool(t, called("Closed", 0, n, now), window.Closed(0, n, now), false)
			isBool(t, called("Expired", 0, n, 5, now), window.Expired(0, n, 5, now), false)
			isBool(t, called("Expired", 0, 10, n, now), window.Expired(0, 10, n, now), false)
			isBool(t, called("Closed", 0, 0, now), window.Closed(0, 0, now), false)
			isBool(t, called("Expired", 0, 0, 0, now), window.Expired(0, 0, 0, now), false)
		}
	}
	isBool(t, "Closed at the last time", window.Closed(2, 10, most), true)
	isBool(t, "Expired at the last time", window.Expired(2, 10, 5, most), true)
}

// P14.2: in the chapter's words, by numbers without bounds, around each End and each Due.
func TestAskedAroundTheirTimes(t *testing.T) {
	for _, width := range edges() {
		for _, w := range append(edges(), around(most/max(width, 1))...) {
			for _, term := range []int{0, 1, 86400, most / 2, most, -1, most + 1} {
				end, _ := after(w, 1, width, 0)
				due, _ := after(w, 1, width, term)
				for _, now := range slices.Concat(around(end), around(due), around(most)) {
					areAsked(t, w, width, term, now)
				}
			}
		}
	}
}

// P14.2: the same, by chance.
func TestAskedByChance(t *testing.T) {
	draw := newPicker()
	for range 200000 {
		areAsked(t, draw.number(), draw.number(), draw.number(), draw.number())
	}
}

// P14.3: the clock goes on to a time, also to the one that it is, and never back.
func TestTick(t *testing.T) {
	for now := range 40 {
		for to := range 40 {
			if to < now {
				isTick(t, now, to, now, api.ErrClock)
			} else {
				isTick(t, now, to, to, api.OK)
			}
		}
	}
	isTick(t, 0, 0, 0, api.OK)
	isTick(t, 0, most, most, api.OK)
	isTick(t, most-1, most, most, api.OK)
	isTick(t, most, most, most, api.OK)
	isTick(t, most, most-1, most, api.ErrClock)
	isTick(t, most, 0, most, api.ErrClock)
}

// P14.3: to what is no time the clock doesn't go, whatever it tells, and what it told is told again.
func TestTickToNone(t *testing.T) {
	for _, to := range none() {
		for _, now := range append(edges(), none()...) {
			isTick(t, now, to, now, api.ErrClock)
		}
	}
}

// P14.3: of now nothing more is asked than that t isn't below it.
func TestTickFromNone(t *testing.T) {
	for _, now := range none() {
		for _, to := range edges() {
			if now < 0 {
				isTick(t, now, to, to, api.OK)
			} else {
				isTick(t, now, to, now, api.ErrClock)
			}
		}
	}
}

// isIn fails if a time is not in its window, or in another one of some.
func isIn(t *testing.T, at, width int) {
	t.Helper()
	own := window.Of(at, width)
	for _, w := range append(around(own), 0, own/2, most/width, most) {
		first, begins := window.Begin(w, width)
		end, ends := window.End(w, width)
		// A window that begins, but has no End, goes on above all times.
		in := begins && first <= at && (!ends || at < end)
		isBool(t, called("is in", at, width, w), in, w == own)
	}
}

// P14.4: each time is in the window that Of tells, and in none other.
func TestTimesAreInOneWindow(t *testing.T) {
	for width := 1; width < 30; width++ {
		for at := range 300 {
			isIn(t, at, width)
			isIn(t, most-at, width)
			isIn(t, at, most-width)
			isIn(t, most-at, most-width)
		}
	}
	for _, width := range edges()[1:] {
		for _, at := range edges() {
			isIn(t, at, width)
		}
	}
	draw := newPicker()
	for range 50000 {
		isIn(t, draw.IntN(most+1), draw.width())
		isIn(t, draw.time(), draw.width())
	}
}

// P14.4: windows lie one behind the other, the first one at 0: each one's End is the next one's Begin.
func TestWindowsLieOneBehindTheOther(t *testing.T) {
	for _, width := range edges()[1:] {
		at, ok := window.Begin(0, width)
		isTime(t, called("Begin", 0, width), at, ok, 0, true)
		for _, w := range append(edges(), around(most/width)...) {
			end, ends := window.End(w, width)
			next, begins := window.Begin(w+1, width)
			isTime(t, called("End", w, width), end, ends, next, begins)
		}
	}
}

// isLasting fails if a window that is expired is not closed, or is either no more at a later time.
func isLasting(t *testing.T, w, width, term int, times ...int) {
	t.Helper()
	slices.Sort(times)
	closed, expired := false, false
	for _, now := range times {
		isClosed, isExpired := window.Closed(w, width, now), window.Expired(w, width, term, now)
		isBool(t, called("Closed, if Expired", w, width, term, now), isClosed || !isExpired, true)
		isBool(t, called("Closed, later", w, width, term, now), isClosed || !closed, true)
		isBool(t, called("Expired, later", w, width, term, now), isExpired || !expired, true)
		closed, expired = isClosed, isExpired
	}
}

// P14.4: a window that is expired is closed, and stays so at each later time.
func TestExpiredIsClosedAndStaysSo(t *testing.T) {
	for width := 1; width < 12; width++ {
		for w := range 8 {
			for term := range 12 {
				times := edges()
				for now := range 130 {
					times = append(times, now)
				}
				isLasting(t, w, width, term, times...)
			}
		}
	}
	draw := newPicker()
	for range 20000 {
		width := draw.width()
		w, term := window.Of(draw.time(), width), draw.time()
		end, _ := window.End(w, width)
		due, _ := window.Due(w, width, term)
		times := slices.Concat(edges(), around(end), around(due))
		isLasting(t, w, width, term, slices.DeleteFunc(times, func(n int) bool { return !may(n) })...)
	}
}

// R4: asked again, in whatever order, the same is told.
func TestAskedAgain(t *testing.T) {
	for range 3 {
		areWindows(t, 25, 10, 5)
		areAsked(t, 2, 10, 5, 35)
		areWindows(t, most, 1, most)
		areAsked(t, most-1, 1, 0, most)
		isTick(t, 7, 9, 9, api.OK)
		isTick(t, 7, 8, 8, api.OK)
		isTick(t, 7, 6, 7, api.ErrClock)
	}
}

// P14.2, P14.3, P1: whatever the numbers are.
func FuzzAsked(f *testing.F) {
	f.Add(2, 10, 5, 34)
	f.Add(0, 0, 0, 0)
	f.Add(most-1, 1, 0, most)
	f.Add(274176, 67280421310721, 0, most)
	f.Add(math.MinInt, math.MaxInt, math.MaxInt, math.MinInt)
	f.Fuzz(func(t *testing.T, w, width, term, now int) {
		areAsked(t, w, width, term, now)
		if may(term) && term >= now {
			isTick(t, now, term, term, api.OK)
		} else {
			isTick(t, now, term, now, api.ErrClock)
		}
		width, term, now = int(uint(width)%most)+1, int(uint(term)%(most+1)), int(uint(now)%(most+1))
		w = int(uint(w) % uint(most/width+1))
		areAsked(t, w, width, term, now)
		end, _ := after(w, 1, width, term)
		for _, now := range around(end) {
			areAsked(t, w, width, term, now)
		}
	})
}
