package super_test

import (
	"slices"
	"strconv"
	"testing"

	"scrinium/api"
	"scrinium/super"
)

// P18.1, P18.2: the chapter's examples.
func TestExamples(t *testing.T) {
	s := super.New()
	for _, x := range []struct {
		window, place int
		err           api.Errno
	}{{2, 0, api.OK}, {5, 1, api.OK}, {5, 0, api.ErrState}} {
		i, err := s.Anchor(freeze(x.window))
		is(t, "Anchor", i, x.place)
		isErr(t, "Anchor", err, x.err)
	}
	i, ok := s.Find(5)
	is(t, "Find(5)", i, 1)
	is(t, "Find(5)", ok, true)
	i, ok = s.Find(3)
	is(t, "Find(3)", i, 0)
	is(t, "Find(3)", ok, false)
}

// P18.1: nothing is in a new one, and each is another.
func TestNew(t *testing.T) {
	a, b := log(t), log(t)
	a.isRight(t, "new")
	a.anchor(t, "one", freeze(1))
	a.isRight(t, "one")
	b.isRight(t, "the other")
}

// A zero one is New().
func TestZero(t *testing.T) {
	b := both{new(super.Super), &model{}}
	b.isRight(t, "zero")
	b.copy(t).isRight(t, "a zero one's copy")
	b.loaded(t, "zero").isRight(t, "a zero one, loaded")
	for i := range 9 {
		b.anchor(t, "zero", freeze(i))
		b.isRight(t, "zero, grown")
	}
	var s super.Super
	_, err := s.Anchor(freeze(3))
	isErr(t, "Anchor", err, api.OK)
	is(t, "Size", s.Size(), 1)
}

// P18.1: each is anchored behind all others, whatever gap there is.
func TestAnchor(t *testing.T) {
	b := log(t)
	for i, w := range append(times(), none()...) {
		b.anchor(t, strconv.Itoa(i), freeze(w))
		b.isRight(t, strconv.Itoa(i))
	}
	is(t, "Size", b.s.Size(), len(times()))
}

// P18.1: all parts of it at their edges.
func TestAnchorAtTheEdges(t *testing.T) {
	for _, w := range times() {
		for _, n := range counts() {
			for _, root := range []api.Sum{{}, hashOf(""), {31: 1}} {
				b := log(t)
				b.anchor(t, name("alone", "", w, n), api.Freeze{Window: w, Count: n, Root: root})
				is(t, "Size", b.s.Size(), 1)
				b.isTold(t, name("alone", "", w, n))
			}
		}
	}
}

// P18.1, R2: one that may not be is ErrArg, and the log as it was.
func TestAnchorOfNone(t *testing.T) {
	for i, b := range some(t) {
		for _, w := range none() {
			b.anchor(t, strconv.Itoa(i), api.Freeze{Window: w, Count: 1})
			b.anchor(t, strconv.Itoa(i), api.Freeze{Window: w})
		}
		for _, n := range noCounts() {
			_, err := b.s.Anchor(api.Freeze{Window: mostTime, Count: n, Root: hashOf("x")})
			isErr(t, "Anchor", err, api.ErrArg)
		}
		b.isRight(t, strconv.Itoa(i))
	}
}

// P18.1: a window that is not above the last one's is ErrState, also one that is not there; and ErrArg stands ahead of it.
func TestAnchorBelow(t *testing.T) {
	b := log(t, 2, 5, 9)
	for w := range 10 {
		for _, root := range []api.Sum{{}, freeze(w).Root} {
			i, err := b.s.Anchor(api.Freeze{Window: w, Count: 1, Root: root})
			isErr(t, name("below", "Anchor", w), err, api.ErrState)
			is(t, name("below", "Anchor", w), i, 0)
		}
		for _, n := range noCounts() {
			i, err := b.s.Anchor(api.Freeze{Window: w, Count: n})
			isErr(t, name("below", "Anchor", w, n), err, api.ErrArg)
			is(t, name("below", "Anchor", w, n), i, 0)
		}
	}
	b.isRight(t, "as it was")
	b.anchor(t, "above", freeze(10))
	b.isRight(t, "above")
}

// P18.1: behind the last window there is none any more.
func TestAnchorBehindTheLastWindow(t *testing.T) {
	b := log(t, mostTime)
	for _, f := range []api.Freeze{freeze(mostTime), freeze(mostTime - 1), freeze(0)} {
		_, err := b.s.Anchor(f)
		isErr(t, "Anchor", err, api.ErrState)
	}
	_, err := b.s.Anchor(api.Freeze{Window: mostTime + 1, Count: 1})
	isErr(t, "Anchor", err, api.ErrArg)
	b.isRight(t, "as it was")
}

// P18.1: what is loaded is as if it had been anchored, and goes on so.
func TestLoad(t *testing.T) {
	for i, b := range some(t) {
		what := strconv.Itoa(i)
		c := b.loaded(t, what)
		c.isRight(t, what+", loaded")
		for _, w := range []int{0, 7, 300, mostTime - 1, mostTime} {
			c.anchor(t, what+", loaded", freeze(w))
		}
		c.isRight(t, what+", gone on")
		b.isRight(t, what+", which was loaded")
	}
}

// P18.1: of nothing, and of no list, a new one is loaded.
func TestLoadOfNothing(t *testing.T) {
	for _, l := range [][]api.Freeze{nil, {}} {
		s, err := super.Load(l)
		isErr(t, "Load", err, api.OK)
		if s == nil {
			t.Fatal("Load: nil")
		}
		both{s, &model{}}.isRight(t, "Load")
	}
}

// isNone fails if a log is loaded of these.
func isNone(t *testing.T, what string, l []api.Freeze) {
	t.Helper()
	s, err := super.Load(l)
	isErr(t, what+": Load", err, api.ErrForm)
	if s != nil {
		t.Errorf("%s: Load: one", what)
	}
}

// P18.1: one that can't be anchored, at each place, whatever stands behind it.
func TestLoadOfNone(t *testing.T) {
	for _, n := range []int{1, 2, 3, 8, 33} {
		all := long(t, n).s.All()
		for i := range all {
			turned := func(by func(f *api.Freeze)) {
				t.Helper()
				l := slices.Clone(all)
				by(&l[i])
				isNone(t, name("turned", "", i, n), l)
				isNone(t, name("the last one turned", "", i, n), l[:i+1])
			}
			for _, w := range none() {
				turned(func(f *api.Freeze) { f.Window = w })
			}
			for _, c := range noCounts() {
				turned(func(f *api.Freeze) { f.Count = c })
			}
			turned(func(f *api.Freeze) { *f = api.Freeze{} })
		}
	}
}

// P18.1: windows that don't rise: two alike, two in the wrong order, all of them the other way round.
func TestLoadOutOfOrder(t *testing.T) {
	for _, n := range []int{2, 3, 8, 33} {
		all := long(t, n).s.All()
		for i := range n - 1 {
			l := slices.Clone(all)
			l[i], l[i+1] = l[i+1], l[i]
			isNone(t, name("in the wrong order", "", i, n), l)
			isNone(t, name("twice", "", i, n), slices.Insert(slices.Clone(all), i, all[i]))
			l = slices.Clone(all)
			l[i].Window = l[i+1].Window
			isNone(t, name("alike", "", i, n), l)
		}
		isNone(t, name("the last one twice", "", n), append(slices.Clone(all), all[n-1]))
		slices.Reverse(all)
		isNone(t, name("the other way round", "", n), all)
	}
}

// P18.1: those that are left of it, whichever is left away, are a log too.
func TestLoadWithoutOne(t *testing.T) {
	all := long(t, 9).s.All()
	for i := range all {
		l := slices.Delete(slices.Clone(all), i, i+1)
		s, err := super.Load(l)
		isErr(t, "Load", err, api.OK)
		both{s, &model{l}}.isRight(t, name("without", "", i))
	}
}

// P1, R1, R2: what a nil one tells.
func TestNil(t *testing.T) {
	var s *super.Super
	i, err := s.Anchor(freeze(1))
	is(t, "Anchor", i, 0)
	isErr(t, "Anchor", err, api.ErrArg)
	_, err = s.Anchor(api.Freeze{})
	isErr(t, "Anchor of none", err, api.ErrArg)
	is(t, "Size", s.Size(), 0)
	is(t, "Root", s.Root(), hashOf(""))
	isList(t, "All", s.All(), nil)
	for _, i := range places(3) {
		f, err := s.At(i)
		is(t, "At", f, api.Freeze{})
		isErr(t, "At", err, api.ErrArg)
		j, ok := s.Find(i)
		is(t, "Find", j, 0)
		is(t, "Find", ok, false)
		for _, n := range places(3) {
			p, err := s.Path(i, n)
			isList(t, "Path", p, nil)
			isErr(t, "Path", err, api.ErrArg)
			p, err = s.Links(i, n)
			isList(t, "Links", p, nil)
			isErr(t, "Links", err, api.ErrArg)
		}
	}
	for _, clock := range append(times(), none()...) {
		for _, key := range keys() {
			is(t, "Head", s.Head(key, clock), super.New().Head(key, clock))
			is(t, "Head", s.Head(key, clock), headOf(key, 0, hashOf(""), clock))
		}
	}
	if s.Copy() != nil {
		t.Error("Copy: one")
	}
}
