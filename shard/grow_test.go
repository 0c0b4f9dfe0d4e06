package shard_test

import (
	"strconv"
	"strings"
	"testing"

	"scrinium/api"
	"scrinium/leaf"
	"scrinium/record"
	"scrinium/shard"
)

// P17.1 to P17.3: the chapter's examples.
func TestExamples(t *testing.T) {
	s := shard.New(3)
	i, err := s.Add(30, "a")
	is(t, "Add", i, 0)
	isErr(t, "Add", err, api.OK)
	f, err := s.Close()
	is(t, "Close", f, api.Freeze{Window: 3, Count: 1, Root: hashOf("\x00\x01\x03\x00\x01\x1e\x01\x01a")})
	isErr(t, "Close", err, api.OK)
	r, err := s.Get(0)
	is(t, "Get", r, api.Record{Window: 3, Time: 30, Payload: "a"})
	isErr(t, "Get", err, api.OK)

	_, err = s.Add(30, "a")
	isErr(t, "Add again", err, api.ErrState)
	isErr(t, "Prune of another freeze's stone", s.Prune(api.Stone{Freeze: api.Freeze{Window: 2, Count: 1, Root: f.Root}}), api.ErrArg)

	isErr(t, "Prune", s.Prune(api.Stone{Freeze: f}), api.OK)
	_, err = s.Get(0)
	isErr(t, "Get", err, api.ErrPruned)
	is(t, "Strip", s.Strip(9), 0)
	is(t, "Count", s.Count(), 1)
}

// P17.1: of each window there is one, open and without records.
func TestNew(t *testing.T) {
	for _, w := range times() {
		opened(t, w, 0).isRight(t, "new")
	}
	one, other := opened(t, 3, 0), opened(t, 3, 0)
	one.add(t, "one", 30, "a")
	one.isRight(t, "one")
	other.isRight(t, "another new one")
}

// P17.1: of what is no window there is none.
func TestNewOfNoWindow(t *testing.T) {
	for _, w := range none() {
		if s := shard.New(w); s != nil {
			t.Errorf("New(%d): one", w)
		}
	}
}

// P17.1, P17.3, P17.5: record by record; leaves and roots as layers 15 and 9 have them.
func TestGrowsRecordByRecord(t *testing.T) {
	b := opened(t, 3, 0)
	var l []api.Sum
	for i := range 40 {
		b.add(t, "grows", 30+i, strings.Repeat("a", i))
		l = append(l, record.Leaf(api.Record{Window: 3, Index: i, Time: 30 + i, Payload: strings.Repeat("a", i)}))
		b.isRight(t, strconv.Itoa(i+1))
		isList(t, "Leaves", b.s.Leaves(), l)
		is(t, "Root", b.s.Root(), leaf.Root(l))
	}
}

// P17.1: records of all times and payloads that may be, in any order, also of times that are not the window's, and alike.
func TestAddsOfAllLooks(t *testing.T) {
	for _, w := range times() {
		b := opened(t, w, 0)
		for i, s := range payloads() {
			b.add(t, "up", times()[i%9], s)
			b.add(t, "down", times()[8-i%9], s)
			b.add(t, "alike", times()[8-i%9], s)
		}
		b.isRight(t, "all looks")
		is(t, "Count", b.s.Count(), 27)
	}
}

// P17.1, R2: what may not be is told as record.Check says, the time ahead of the payload, and nothing happens.
func TestAddsOfNone(t *testing.T) {
	for _, n := range []int{0, 1, 5} {
		b := opened(t, 3, n)
		for _, at := range none() {
			for _, s := range append(payloads(), long()...) {
				_, err := b.s.Add(at, s)
				isErr(t, "Add at no time", err, api.ErrArg)
				b.add(t, "no time", at, s)
			}
		}
		for _, s := range long() {
			for _, at := range times() {
				_, err := b.s.Add(at, s)
				isErr(t, "Add of too much", err, api.ErrSize)
				b.add(t, "too much", at, s)
			}
		}
		b.isRight(t, "behind errors")
		b.add(t, "behind errors", 31, "ok")
		b.isRight(t, "one more")
	}
}

// P17.1: with as many records as there may be it is full, whatever comes; ErrFull stands ahead of what is told of the record.
func TestFull(t *testing.T) {
	b := opened(t, 3, mostCount-1)
	i, err := b.s.Add(9, "the last")
	is(t, "Add of the last", i, mostCount-1)
	isErr(t, "Add of the last", err, api.OK)
	b.m.add(9, "the last")
	for _, at := range []int{0, 9, mostTime, -1, mostTime + 1} {
		for _, s := range []string{"", "x", long()[0]} {
			_, err := b.s.Add(at, s)
			isErr(t, "Add to a full one", err, api.ErrFull)
			b.add(t, "full", at, s)
		}
	}
	b.isRight(t, "full")
	b.close(t, "full")
	b.isRight(t, "full and closed")
}

// P17.1: what is not open doesn't grow; ErrState stands ahead of all else.
func TestAddsToOnesNotOpen(t *testing.T) {
	for _, b := range []both{closed(t, 3, 2), closed(t, 3, mostCount), pruned(t, 3, 2, 0), pruned(t, 3, 2, 1), pruned(t, 3, 2, 2), pruned(t, 3, mostCount, 1)} {
		for _, at := range []int{0, 30, mostTime, -1, mostTime + 1} {
			for _, s := range []string{"", "x", long()[0]} {
				_, err := b.s.Add(at, s)
				isErr(t, "Add to one that is not open", err, api.ErrState)
				b.add(t, "not open", at, s)
			}
		}
		b.isRight(t, "not open")
	}
}

// A zero one is New(0).
func TestZeroShard(t *testing.T) {
	b := both{new(shard.Shard), &model{}}
	b.isRight(t, "zero")
	b.close(t, "zero")
	b.prune(t, "zero", api.Stone{})
	b.strip(t, "zero", 1)
	b.isRight(t, "zero, behind calls")
	b.copy(t).isRight(t, "a copy of a zero one")
	for i := range 9 {
		b.add(t, "zero", i, "a")
		b.isRight(t, "of a zero one")
	}
	b.close(t, "zero")
	b.prune(t, "zero", b.m.stoneFor(1))
	b.isRight(t, "of a zero one, pruned")
}

// R1, P1: a nil shard.
func TestNilShard(t *testing.T) {
	var s *shard.Shard
	for range 2 {
		i, err := s.Add(30, "a")
		is(t, "Add", i, 0)
		isErr(t, "Add", err, api.ErrArg)
		f, err := s.Close()
		is(t, "Close", f, api.Freeze{})
		isErr(t, "Close", err, api.ErrArg)
		isErr(t, "Prune", s.Prune(api.Stone{}), api.ErrArg)
		for _, n := range places(3) {
			is(t, "Strip", s.Strip(n), 0)
			r, err := s.Get(n)
			is(t, "Get", r, api.Record{})
			isErr(t, "Get", err, api.ErrArg)
			p, err := s.Path(0, n)
			isList(t, "Path", p, nil)
			isErr(t, "Path", err, api.ErrArg)
			_, err = s.Path(n, 1)
			isErr(t, "Path", err, api.ErrArg)
		}
		is(t, "Window", s.Window(), -1)
		is(t, "State", s.State(), 0)
		is(t, "Count", s.Count(), 0)
		is(t, "Left", s.Left(), 0)
		is(t, "Root", s.Root(), hashOf(""))
		isList(t, "Leaves", s.Leaves(), nil)
		isList(t, "Rows", s.Rows(), nil)
		f, ok := s.Freeze()
		is(t, "Freeze", f, api.Freeze{})
		is(t, "Freeze, whether", ok, false)
		z, ok := s.Stone()
		is(t, "Stone", z, api.Stone{})
		is(t, "Stone, whether", ok, false)
		if c := s.Copy(); c != nil {
			t.Errorf("Copy: %v, want nil", c)
		}
	}
}
