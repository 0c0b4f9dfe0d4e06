package shard_test

import (
	"math"
	"runtime"
	"strings"
	"testing"
	"unsafe"
	"weak"

	"scrinium/api"
	"scrinium/seal"
	"scrinium/shard"
)

// P17.2: one with records is closed once; what is told is its freeze.
func TestClose(t *testing.T) {
	for _, w := range times() {
		for _, n := range []int{1, 2, 3, 8, 33} {
			b := opened(t, w, n)
			f, err := b.s.Copy().Close()
			isErr(t, "Close", err, api.OK)
			is(t, "Close", f, api.Freeze{Window: w, Count: n, Root: b.s.Root()})
			b.close(t, "open")
			b.isRight(t, "closed")
			b.close(t, "closed")
			b.isRight(t, "closed again")
		}
	}
}

// P17.2: without records it can't be closed, and goes on as it was.
func TestCloseWithoutRecords(t *testing.T) {
	b := opened(t, 3, 0)
	f, err := b.s.Close()
	is(t, "Close", f, api.Freeze{})
	isErr(t, "Close", err, api.ErrState)
	b.isRight(t, "without records")
	b.add(t, "without records", 30, "a")
	b.close(t, "with one")
	b.isRight(t, "with one")
}

// P17.2: what is pruned can't be closed again.
func TestCloseOfPruned(t *testing.T) {
	for _, stripped := range []int{0, 1, 3} {
		b := pruned(t, 3, 3, stripped)
		_, err := b.s.Close()
		isErr(t, "Close", err, api.ErrState)
		b.close(t, "pruned")
		b.isRight(t, "pruned")
	}
}

// P17.2: a closed one is pruned once, by a stone of its freeze that may be, whoever signed it.
func TestPrune(t *testing.T) {
	for _, at := range times() {
		for _, mac := range []api.Sum{{}, {31: 1}, hashOf("x")} {
			b := closed(t, 3, 5)
			z := api.Stone{Freeze: b.m.freeze(), At: at, Mac: mac}
			isErr(t, "Prune", b.s.Copy().Prune(z), api.OK)
			b.prune(t, "closed", z)
			b.isRight(t, "pruned")
			for _, y := range []api.Stone{z, b.m.stoneFor(1), {}} {
				isErr(t, "Prune again", b.s.Prune(y), api.ErrState)
				b.isRight(t, "pruned again")
			}
		}
	}
	b := closed(t, 3, 5)
	f, _ := b.s.Freeze()
	b.prune(t, "signed", seal.Stone("key", f, 99))
	b.isRight(t, "by a signed stone")
}

// noStones are those that may not prune what has the freeze: of another one, or such as may not be.
func noStones(f api.Freeze) []api.Stone {
	l := []api.Stone{{}, {At: 9}, {Freeze: api.Freeze{Window: f.Window, Count: f.Count}, At: 9}}
	for i := range f.Root {
		for bit := range 8 {
			g := f
			g.Root[i] ^= 1 << bit
			l = append(l, api.Stone{Freeze: g, At: 9})
		}
	}
	for _, d := range []int{-1, 1, 256, -f.Window, -f.Count, 1 << 32, math.MaxInt, math.MinInt} {
		g, h := f, f
		g.Window += d
		h.Count += d
		for _, x := range []api.Freeze{g, h} {
			if x != f {
				l = append(l, api.Stone{Freeze: x, At: 9})
			}
		}
	}
	for _, at := range none() {
		l = append(l, api.Stone{Freeze: f, At: at}, api.Stone{Freeze: f, At: at, Mac: hashOf("x")})
	}
	return l
}

// P17.2, R2: other stones are ErrArg, and it is as it was.
func TestPruneByOtherStones(t *testing.T) {
	for _, w := range []int{0, 3, mostTime} {
		b := closed(t, w, 3)
		for _, z := range noStones(b.m.freeze()) {
			isErr(t, "Prune by another stone", b.s.Prune(z), api.ErrArg)
		}
		b.isRight(t, "behind other stones")
		b.prune(t, "behind other stones", b.m.stoneFor(7))
		b.isRight(t, "pruned")
	}
}

// P17.2: what is not closed is not pruned; ErrState stands ahead of what is told of the stone.
func TestPruneOfOnesNotClosed(t *testing.T) {
	for _, b := range []both{opened(t, 3, 0), opened(t, 3, 3), pruned(t, 3, 3, 0), pruned(t, 3, 3, 2), pruned(t, 3, 3, 3)} {
		for _, z := range append(noStones(b.m.freeze()), b.m.stoneFor(9), b.m.stone) {
			isErr(t, "Prune of one that is not closed", b.s.Prune(z), api.ErrState)
		}
		b.isRight(t, "not closed")
	}
}

// P17.2: the last ones go first, as many as are asked for, until there are none.
func TestStrip(t *testing.T) {
	for _, n := range []int{1, 2, 3, 9, 30} {
		for _, step := range []int{1, 2, 4, n, n + 1, math.MaxInt} {
			b := pruned(t, 3, n, 0)
			for range n + 2 {
				b.strip(t, "pruned", step)
				b.isRight(t, "stripped")
			}
		}
	}
	b := pruned(t, 3, 9, 0)
	is(t, "Strip 4", b.s.Strip(4), 5)
	is(t, "Strip 4", b.s.Strip(4), 1)
	is(t, "Strip 4", b.s.Strip(4), 0)
}

// P17.2: of no number, or one below 0, there are none.
func TestStripOfNone(t *testing.T) {
	for _, stripped := range []int{0, 2, 5} {
		b := pruned(t, 3, 5, stripped)
		for _, n := range append([]int{0}, none()[:6]...) {
			is(t, "Strip of none", b.s.Strip(n), 5-stripped)
			b.strip(t, "none", n)
		}
		b.isRight(t, "none stripped")
	}
}

// P17.2: what is not pruned keeps all its payloads.
func TestStripOfOnesNotPruned(t *testing.T) {
	for _, b := range []both{opened(t, 3, 0), opened(t, 3, 5), closed(t, 3, 5)} {
		for _, n := range []int{math.MinInt, -1, 0, 1, 4, 5, 6, math.MaxInt} {
			is(t, "Strip", b.s.Strip(n), len(b.m.records))
			b.strip(t, "not pruned", n)
		}
		b.isRight(t, "not pruned")
		b.add(t, "not pruned", 1, "a")
		b.isRight(t, "one more")
	}
}

// P17.2: payloads that are stripped are kept nowhere.
func TestStrippedIsNotKept(t *testing.T) {
	s := shard.New(3)
	var payloads []weak.Pointer[byte]
	for range 6 {
		payload := strings.Repeat("x", 1000)
		payloads = append(payloads, weak.Make(unsafe.StringData(payload)))
		s.Add(30, payload)
	}
	f, _ := s.Close()
	isErr(t, "Prune", s.Prune(api.Stone{Freeze: f}), api.OK)
	for left := 6; left >= 0; left -= 2 {
		runtime.GC()
		for i, p := range payloads {
			is(t, "payload is kept", p.Value() != nil, i < left)
		}
		s.Strip(2)
	}
	runtime.KeepAlive(s)
}

// P17.1, P17.2, P17.3: as many records as there may be.
func TestGreatOnes(t *testing.T) {
	for _, b := range great(t) {
		b.isRight(t, "great")
	}
	b := pruned(t, 3, mostCount, 0)
	for range mostCount / api.MaxStrip {
		b.strip(t, "great", api.MaxStrip)
	}
	is(t, "Left", b.s.Left(), 0)
	b.isRight(t, "great, all stripped")
}
