package shard_test

import (
	"slices"
	"strconv"
	"testing"

	"scrinium/api"
	"scrinium/leaf"
	"scrinium/path"
	"scrinium/proof"
	"scrinium/record"
	"scrinium/seal"
)

// P17.3: all that is told, in all states.
func TestTold(t *testing.T) {
	for i, b := range some(t) {
		b.isRight(t, strconv.Itoa(i))
	}
}

// P17.3: by the layers below: roots, leaves, paths, and that these are right.
func TestToldByOtherLayers(t *testing.T) {
	for _, b := range some(t) {
		l := b.s.Leaves()
		is(t, "Root", b.s.Root(), leaf.Root(l))
		for i, r := range b.s.Rows() {
			is(t, "leaf", l[i], record.Leaf(r))
		}
		for n := 1; n <= len(l); n++ {
			root := leaf.Root(l[:n])
			for i := range n {
				p, err := b.s.Path(i, n)
				isErr(t, "Path", err, api.OK)
				want, _ := path.Path(l[:n], i)
				isList(t, "Path", p, want)
				is(t, "Right", proof.Right(root, l[i], i, n, p), true)
			}
		}
		if f, ok := b.s.Freeze(); ok {
			_, err := seal.FreezeBytes(f)
			isErr(t, "FreezeBytes", err, api.OK)
		}
		if z, ok := b.s.Stone(); ok {
			_, err := seal.StoneBytes(z)
			isErr(t, "StoneBytes", err, api.OK)
		}
	}
}

// P17.3: ErrRange stands ahead of ErrPruned, and a pruned one tells no record, also of those whose payloads are left.
func TestGetOfPruned(t *testing.T) {
	b := pruned(t, 3, 3, 1)
	is(t, "Left", b.s.Left(), 2)
	for i, want := range map[int]api.Errno{-1: api.ErrRange, 0: api.ErrPruned, 1: api.ErrPruned, 2: api.ErrPruned, 3: api.ErrRange} {
		r, err := b.s.Get(i)
		isErr(t, "Get", err, want)
		is(t, "Get", r, api.Record{})
	}
}

// P17.3: one of a single record has a path without hashes.
func TestPathOfOne(t *testing.T) {
	for _, b := range []both{opened(t, 3, 1), closed(t, 3, 1), pruned(t, 3, 1, 1), opened(t, 3, 5)} {
		p, err := b.s.Path(0, 1)
		isErr(t, "Path", err, api.OK)
		isList(t, "Path", p, nil)
	}
}

// P17.3: a copy is the same, and each goes its own way.
func TestCopiesGoTheirOwnWay(t *testing.T) {
	for i, b := range some(t) {
		what := strconv.Itoa(i)
		c := b.copy(t)
		c.isRight(t, what+", copy")
		for j := range 5 {
			b.add(t, what, j, "one")
			c.add(t, what+", copy", j, "other")
			b.isRight(t, what)
			c.isRight(t, what+", copy")
		}
		d := b.copy(t)
		b.close(t, what)
		d.isRight(t, what+", copied ahead of Close")
		d = b.copy(t)
		b.prune(t, what, b.m.stoneFor(9))
		d.isRight(t, what+", copied ahead of Prune")
		d = b.copy(t)
		b.strip(t, what, 1)
		d.isRight(t, what+", copied ahead of Strip")
		d.strip(t, what+", copy", 2)
		b.isRight(t, what)
		d.isRight(t, what+", copy")
		c.isRight(t, what+", first copy")
	}
}

// R3: what is told is its owner's, and doesn't change later.
func TestToldIsItsOwners(t *testing.T) {
	for i, b := range some(t) {
		what := strconv.Itoa(i)
		leaves, rows := b.s.Leaves(), b.s.Rows()
		p, _ := b.s.Path(0, len(b.m.records))
		keptLeaves, keptRows, keptPath := slices.Clone(leaves), slices.Clone(rows), slices.Clone(p)
		spoil(b.s.Leaves())
		spoil(b.s.Rows())
		q, _ := b.s.Path(0, len(b.m.records))
		spoil(q)
		b.isRight(t, what+", spoilt")
		b.add(t, what, 3, "more")
		b.close(t, what)
		b.prune(t, what, b.m.stoneFor(9))
		b.strip(t, what, 2)
		isList(t, what+": Leaves of ahead", leaves, keptLeaves)
		isList(t, what+": Rows of ahead", rows, keptRows)
		isList(t, what+": Path of ahead", p, keptPath)
	}
}

// spoil makes all of a list zero, and what lies behind it.
func spoil[T any](l []T) {
	clear(l[:cap(l)])
	var none T
	_ = append(l, none, none)
}

// P17.5: leaves, roots and paths of the first n stay, whatever comes behind, and whatever is done.
func TestLeavesNeverChange(t *testing.T) {
	b := opened(t, 3, 0)
	var leaves []api.Sum
	paths := map[[2]int][]api.Sum{}
	stay := func(what string) {
		t.Helper()
		isList(t, what+": Leaves", b.s.Leaves()[:len(leaves)], leaves)
		for at, want := range paths {
			p, err := b.s.Path(at[0], at[1])
			isErr(t, what+": Path", err, api.OK)
			isList(t, what+": Path", p, want)
		}
	}
	for n := 1; n <= 20; n++ {
		b.add(t, "grows", n, "a"+strconv.Itoa(n))
		stay("Add")
		leaves = b.s.Leaves()
		for i := range n {
			paths[[2]int{i, n}], _ = b.s.Path(i, n)
		}
	}
	root := b.s.Root()
	steps := map[string]func(){
		"1 Add of none": func() { b.add(t, "none", -1, "") },
		"2 Close":       func() { b.close(t, "Close") },
		"3 Add":         func() { b.add(t, "closed", 9, "b") },
		"4 Prune":       func() { b.prune(t, "Prune", b.m.stoneFor(9)) },
		"5 Strip":       func() { b.strip(t, "Strip", 4) },
		"6 Strip":       func() { b.strip(t, "Strip", 99) },
	}
	for _, what := range []string{"1 Add of none", "2 Close", "3 Add", "4 Prune", "5 Strip", "6 Strip"} {
		steps[what]()
		stay(what)
		is(t, what+": Root", b.s.Root(), root)
		is(t, what+": Count", b.s.Count(), 20)
	}
}

// R4: no shard hangs on another one, and the same calls have the same answers.
func TestShardsSideBySide(t *testing.T) {
	var l []both
	for i := range 7 {
		l = append(l, opened(t, i/2, 0))
	}
	for i := range 200 {
		l[i*i%7].add(t, "side by side", i, strconv.Itoa(i/3))
	}
	for i, b := range l {
		if i%3 > 0 {
			b.close(t, "side by side")
		}
		if i%3 > 1 {
			b.prune(t, "side by side", b.m.stoneFor(i))
		}
	}
	for _, b := range l {
		b.isRight(t, "side by side")
	}
}

// P17.1 to P17.5, P1: by chance.
func TestByChance(t *testing.T) {
	draw := newPicker()
	for range 150 {
		b := opened(t, draw.IntN(1<<draw.IntN(51)+1), draw.IntN(12))
		for range draw.IntN(30) {
			b = b.goesOn(t, draw)
			b.isRight(t, "by chance")
		}
	}
}

// goesOn does something, and tells the shard on which it was done.
func (b both) goesOn(t *testing.T, draw picker) both {
	t.Helper()
	switch n := len(b.m.records); draw.IntN(8) {
	case 0:
		b.close(t, "by chance")
	case 1:
		b.prune(t, "by chance", draw.stone(b.m))
	case 2, 3:
		b.strip(t, "by chance", draw.number(n))
	case 4:
		b = b.copy(t)
	case 5:
		b = b.loaded(t, "by chance")
	default:
		b.add(t, "by chance", draw.number(mostTime), payloads()[draw.IntN(9)])
	}
	return b
}
