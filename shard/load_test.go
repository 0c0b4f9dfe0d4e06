package shard_test

import (
	"math"
	"slices"
	"strconv"
	"testing"

	"scrinium/api"
	"scrinium/record"
	"scrinium/shard"
)

// parts are what Load is handed.
type parts struct {
	window, state int
	leaves        []api.Sum
	rows          []api.Record
	stone         api.Stone
}

// parts are those of a shard, by what it tells.
func (b both) parts() parts {
	z, _ := b.s.Stone()
	return parts{b.s.Window(), b.s.State(), b.s.Leaves(), b.s.Rows(), z}
}

func (p parts) load() (*shard.Shard, api.Errno) {
	return shard.Load(p.window, p.state, p.leaves, p.rows, p.stone)
}

// copy is another one, of which all can be changed.
func (p parts) copy() parts {
	p.leaves, p.rows = slices.Clone(p.leaves), slices.Clone(p.rows)
	return p
}

// isNone fails if a shard is loaded.
func (p parts) isNone(t *testing.T, what string) {
	t.Helper()
	s, err := p.load()
	isErr(t, what+": Load", err, api.ErrForm)
	if s != nil {
		t.Errorf("%s: Load: one", what)
	}
}

// loaded is the same shard, loaded from what it tells.
func (b both) loaded(t *testing.T, what string) both {
	t.Helper()
	s, err := b.parts().load()
	isErr(t, what+": Load", err, api.OK)
	if s == nil {
		t.Fatal(what + ": Load: nil")
	}
	return both{s, b.m.copy()}
}

// P17.4: what has come to be so is loaded, and goes on as it would have.
func TestLoad(t *testing.T) {
	for i, b := range some(t) {
		what := strconv.Itoa(i)
		c := b.loaded(t, what)
		c.isRight(t, what+", loaded")
		z := b.m.stoneFor(12)
		for j := range 3 {
			c.add(t, what+", loaded", j, "more")
		}
		c.isRight(t, what+", grown")
		c.prune(t, what+", loaded", z)
		c.close(t, what+", loaded")
		c.prune(t, what+", loaded", c.m.stoneFor(12))
		c.strip(t, what+", loaded", 2)
		c.isRight(t, what+", gone on")
		b.isRight(t, what+", which was loaded")
	}
}

// P17.4: as many records as there may be.
func TestLoadOfGreatOnes(t *testing.T) {
	for i, b := range great(t) {
		c := b.loaded(t, "great")
		c.add(t, "great", 3, "more")
		c.add(t, "great", 3, "still more")
		c.close(t, "great")
		c.prune(t, "great", c.m.stoneFor(12))
		c.strip(t, "great", 1500)
		c.isTold(t, strconv.Itoa(i)+", gone on")
	}
}

// P17.4: also such as are put together by hand, without lists where there is nothing.
func TestLoadByHand(t *testing.T) {
	for _, w := range times() {
		r := []api.Record{{Window: w, Index: 0, Time: 30, Payload: "a"}, {Window: w, Index: 1, Time: 7}}
		l := []api.Sum{leafOf(r[0]), leafOf(r[1])}
		f := api.Freeze{Window: w, Count: 2, Root: above(l[0], l[1])}
		for _, z := range []api.Stone{{Freeze: f}, {Freeze: f, At: mostTime, Mac: hashOf("x")}} {
			for left := range 3 {
				s, err := shard.Load(w, api.ShardPruned, l, r[:left], z)
				isErr(t, "Load", err, api.OK)
				both{s, &model{w, api.ShardPruned, left, r, z}}.isRight(t, "pruned")
			}
		}
		for _, state := range []int{api.ShardOpen, api.ShardFrozen} {
			s, err := shard.Load(w, state, l, r, api.Stone{})
			isErr(t, "Load", err, api.OK)
			both{s, &model{window: w, state: state, left: 2, records: r}}.isRight(t, "not pruned")
		}
		for _, none := range [][]api.Sum{nil, {}} {
			s, err := shard.Load(w, api.ShardOpen, none, []api.Record{}, api.Stone{})
			isErr(t, "Load", err, api.OK)
			both{s, &model{window: w}}.isRight(t, "without records")
		}
	}
}

// P17.4: leaves whose payloads are given up may be any.
func TestLoadOfStrippedLeaves(t *testing.T) {
	l := []api.Sum{hashOf("a"), {}, {31: 1}, hashOf("\x00"), {}}
	z := api.Stone{Freeze: api.Freeze{Window: 3, Count: 5, Root: rootOf(l)}, At: 9}
	s, err := shard.Load(3, api.ShardPruned, l, nil, z)
	isErr(t, "Load", err, api.OK)
	is(t, "Root", s.Root(), rootOf(l))
	isList(t, "Leaves", s.Leaves(), l)
	is(t, "Left", s.Left(), 0)
}

// P17.4: of one that is not pruned the stone is not asked, nor told.
func TestLoadAsksNoStone(t *testing.T) {
	for _, b := range []both{opened(t, 3, 0), opened(t, 3, 4), closed(t, 3, 4)} {
		for _, z := range append(noStones(b.m.freeze()), b.m.stoneFor(9)) {
			p := b.parts()
			p.stone = z
			s, err := p.load()
			isErr(t, "Load", err, api.OK)
			both{s, b.m}.isTold(t, "with a stone")
		}
		p := b.parts()
		p.stone = b.m.stoneFor(9)
		s, _ := p.load()
		c := both{s, b.m.copy()}
		c.close(t, "with a stone")
		c.prune(t, "with a stone", c.m.stoneFor(10))
		c.isRight(t, "with another stone")
	}
}

// P17.4: no window, and no state.
func TestLoadOfNoWindowAndNoState(t *testing.T) {
	for i, b := range some(t) {
		for _, n := range none() {
			p := b.parts().copy()
			p.window = n
			p.isNone(t, strconv.Itoa(i)+", no window")
			p.stone.Freeze.Window = n
			for j := range p.rows {
				p.rows[j].Window = n
			}
			p.isNone(t, strconv.Itoa(i)+", no window at all")
		}
		for _, n := range []int{-1, -2, 3, 4, 256, 257, 258, 1 << 32, 1<<32 + 1, 1<<32 + 2, math.MaxInt, math.MinInt} {
			p := b.parts()
			p.state = n
			p.isNone(t, strconv.Itoa(i)+", no state")
		}
	}
}

// P17.4: none without leaves that is not open.
func TestLoadWithoutLeaves(t *testing.T) {
	for _, state := range []int{api.ShardFrozen, api.ShardPruned} {
		for _, z := range []api.Stone{{}, {Freeze: api.Freeze{Window: 3, Root: hashOf("")}}, {Freeze: api.Freeze{Window: 3}}} {
			parts{3, state, nil, nil, z}.isNone(t, "without leaves")
			parts{3, state, []api.Sum{}, []api.Record{}, z}.isNone(t, "without leaves")
		}
	}
}

// P17.4: more leaves than there may be, also far more.
func TestLoadOfTooManyLeaves(t *testing.T) {
	for _, n := range []int{mostCount + 1, mostCount + 2, 2 * mostCount, 1 << 21} {
		l := make([]api.Sum, n)
		for _, state := range []int{api.ShardOpen, api.ShardFrozen, api.ShardPruned} {
			parts{3, state, l, nil, api.Stone{Freeze: api.Freeze{Window: 3, Count: n}}}.isNone(t, "too many leaves")
		}
	}
	b := opened(t, 3, mostCount)
	p := b.parts()
	r := api.Record{Window: 3, Index: mostCount, Time: 1}
	p.leaves, p.rows = append(p.leaves, leafOf(r)), append(p.rows, r)
	p.isNone(t, "one too many")
	p.leaves[mostCount] = record.Leaf(r)
	p.isNone(t, "one too many, with layer 15's leaf")
	p.leaves = p.leaves[:mostCount]
	p.isNone(t, "a row too many")
	p.rows = make([]api.Record, 1<<20)
	p.isNone(t, "far too many rows")
}

// P17.4: rows of another number.
func TestLoadOfTooManyAndTooFewRows(t *testing.T) {
	for i, b := range some(t) {
		p := b.parts()
		n := len(p.leaves)
		for left := range n + 3 {
			q := p.copy()
			q.rows = nil
			for j := range left {
				q.rows = append(q.rows, api.Record{Window: p.window, Index: j})
				if j < n {
					q.rows[j] = b.m.records[j]
				}
			}
			what := strconv.Itoa(i) + ", " + strconv.Itoa(left) + " rows"
			if left > n || left < n && p.state != api.ShardPruned {
				q.isNone(t, what)
				continue
			}
			_, err := q.load()
			isErr(t, what, err, api.OK)
		}
	}
}

// turnRecords are all the ways to make a row another one: its window, its place, its time, its payload.
func turnRecords() []func(*api.Record) {
	return []func(*api.Record){
		func(r *api.Record) { r.Window++ },
		func(r *api.Record) { r.Window-- },
		func(r *api.Record) { r.Window += 1 << 56 },
		func(r *api.Record) { r.Index++ },
		func(r *api.Record) { r.Index-- },
		func(r *api.Record) { r.Index += mostCount },
		func(r *api.Record) { r.Time++ },
		func(r *api.Record) { r.Time = -r.Time - 1 },
		func(r *api.Record) { r.Payload += "x" },
		func(r *api.Record) { r.Payload = long()[0] },
		func(r *api.Record) { *r = api.Record{Payload: "another"} },
	}
}

// P17.4: one of the rows is another one, with its leaf or without.
func TestLoadOfOtherRows(t *testing.T) {
	for i, b := range some(t) {
		for j := range b.m.left {
			for k, turn := range turnRecords() {
				what := strconv.Itoa(i) + ", row " + strconv.Itoa(j) + ", turn " + strconv.Itoa(k)
				p := b.parts().copy()
				turn(&p.rows[j])
				p.isNone(t, what)
				isFit := record.Check(p.rows[j]) == api.OK && p.rows[j].Window == p.window && p.rows[j].Index == j
				for _, x := range []api.Sum{leafOf(p.rows[j]), record.Leaf(p.rows[j])} {
					p.leaves[j] = x
					p.stone.Freeze.Root = rootOf(p.leaves)
					if !isFit {
						p.isNone(t, what+", with its leaf")
						continue
					}
					_, err := p.load()
					isErr(t, what+", with its leaf", err, api.OK)
				}
			}
		}
	}
}

// P17.4: rows in another order, or one of them twice, or one left away.
func TestLoadOfRowsInAnotherOrder(t *testing.T) {
	for i, b := range []both{opened(t, 3, 5), closed(t, 3, 5), pruned(t, 3, 5, 0), pruned(t, 3, 7, 2)} {
		what := strconv.Itoa(i)
		p := b.parts().copy()
		slices.Reverse(p.rows)
		p.isNone(t, what+", turned")
		slices.Reverse(p.leaves)
		p.stone.Freeze.Root = rootOf(p.leaves)
		p.isNone(t, what+", turned with their leaves")
		for j := range b.m.left - 1 {
			q := b.parts().copy()
			q.rows[j], q.rows[j+1] = q.rows[j+1], q.rows[j]
			q.isNone(t, what+", two changed")
			q.rows[j] = q.rows[j+1]
			q.isNone(t, what+", one twice")
			q = b.parts().copy()
			q.rows = slices.Delete(q.rows, j, j+1)
			q.isNone(t, what+", one left away")
		}
	}
}

// P17.4: a record that may not be was never added, though layer 15 tells a leaf of it too, that of nothing.
func TestLoadOfRowsThatMayNotBe(t *testing.T) {
	ofNothing := hashOf("\x00")
	bad := []api.Record{{Window: 3, Time: -1}, {Window: 3, Time: mostTime + 1, Payload: "a"}, {Window: 3, Time: math.MinInt}, {Window: 3, Payload: long()[0]}}
	for _, r := range bad {
		is(t, "Leaf of one that may not be", record.Leaf(r), ofNothing)
		for _, n := range []int{0, 1, 4} {
			for _, b := range []both{opened(t, 3, n+2), closed(t, 3, n+2), pruned(t, 3, n+2, 0), pruned(t, 3, n+2, 1)} {
				p := b.parts().copy()
				r.Index = n
				p.rows[n], p.leaves[n] = r, ofNothing
				p.stone.Freeze.Root = rootOf(p.leaves)
				p.isNone(t, "a row that may not be")
				p.leaves[n] = leafOf(r)
				p.stone.Freeze.Root = rootOf(p.leaves)
				p.isNone(t, "a row that may not be, with its own bytes' leaf")
			}
		}
	}
}

// P17.4: one of the leaves is another one.
func TestLoadOfOtherLeaves(t *testing.T) {
	for i, b := range some(t) {
		for j := range b.m.records {
			for at := range 32 {
				p := b.parts().copy()
				p.leaves[j][at] ^= 1 << (at % 8)
				p.isNone(t, strconv.Itoa(i)+", a bit turned")
			}
		}
		if n := len(b.m.records); n > 1 {
			p := b.parts().copy()
			slices.Reverse(p.leaves)
			p.isNone(t, strconv.Itoa(i)+", leaves turned")
			p = b.parts()
			p.leaves = p.leaves[:n-1]
			p.isNone(t, strconv.Itoa(i)+", the last leaf left away")
		}
	}
}

// P17.4: of one that is pruned the stone is its own, and may be.
func TestLoadOfOtherStones(t *testing.T) {
	for i, b := range []both{pruned(t, 3, 1, 0), pruned(t, 3, 5, 0), pruned(t, 0, 5, 2), pruned(t, mostTime, 5, 5), pruned(t, 3, 300, 300)} {
		for _, z := range noStones(b.m.freeze()) {
			p := b.parts()
			p.stone = z
			p.isNone(t, strconv.Itoa(i)+", another stone")
		}
		p := b.parts()
		p.window++
		p.isNone(t, strconv.Itoa(i)+", another window")
	}
}

// P17.4: the states may be others where all that belongs to them is there.
func TestLoadInAnotherState(t *testing.T) {
	for i, b := range some(t) {
		for state := range 3 {
			p := b.parts()
			p.state = state
			m := *b.m
			m.state = state
			whole := len(p.rows) == len(p.leaves)
			if state == api.ShardPruned {
				p.stone = b.m.stoneFor(9)
			}
			if state != api.ShardOpen && len(p.leaves) == 0 || state != api.ShardPruned && !whole {
				p.isNone(t, strconv.Itoa(i)+", another state")
				continue
			}
			m.stone = api.Stone{}
			if state == api.ShardPruned {
				m.stone = p.stone
			}
			s, err := p.load()
			isErr(t, strconv.Itoa(i)+", another state", err, api.OK)
			both{s, &m}.isTold(t, strconv.Itoa(i)+", another state")
		}
	}
}

// R3: what is handed in stays as it is, and may be changed behind the call.
func TestLoadKeepsNothing(t *testing.T) {
	for i, b := range some(t) {
		what := strconv.Itoa(i)
		p := b.parts()
		p.leaves, p.rows = slices.Grow(p.leaves, 9), slices.Grow(p.rows, 9)
		was := p.copy()
		s, err := p.load()
		isErr(t, what+": Load", err, api.OK)
		c := both{s, b.m.copy()}
		c.add(t, what, 3, "more")
		isList(t, what+": leaves behind Load", p.leaves, was.leaves)
		isList(t, what+": rows behind Load", p.rows, was.rows)
		spoil(p.leaves)
		spoil(p.rows)
		c.isRight(t, what+", spoilt")
		c.close(t, what)
		c.prune(t, what, c.m.stoneFor(9))
		p.leaves, p.rows = append(p.leaves[:0], was.leaves...), append(p.rows[:0], was.rows...)
		c.strip(t, what, 9)
		isList(t, what+": rows behind Strip", p.rows, was.rows)
	}
}

// P17.1 to P17.5, P1: whatever is done, one behind the other.
func FuzzScripts(f *testing.F) {
	f.Add(3, []byte("aaaaacps"))
	f.Add(mostTime, []byte{0, 1, 2, 3, 4, 5, 6, 7, 8, 9, 250, 251, 252})
	f.Add(-1, []byte("a"))
	f.Add(0, []byte("aacpslsaakl"))
	f.Fuzz(func(t *testing.T, window int, script []byte) {
		if shard.New(window) == nil {
			is(t, "no window", window < 0 || window > mostTime, true)
			window = int(uint(window) % (mostTime + 1))
		}
		b := opened(t, window, 0)
		for i, c := range script[:min(len(script), 60)] {
			switch c % 8 {
			case 0, 1, 2:
				b.add(t, "script", i-1, string(script[i:min(len(script), i+int(c))]))
			case 3:
				b.close(t, "script")
			case 4:
				z := b.m.stoneFor(i)
				z.Freeze.Root[c/8] ^= c >> 7
				b.prune(t, "script", z)
			case 5:
				b.strip(t, "script", int(int8(c))/8)
			case 6:
				b = b.copy(t)
			case 7:
				b = b.loaded(t, "script")
			}
		}
		b.isRight(t, "script")
	})
}

// P17.4, P1: whatever Load is handed: a shard that tells just this, or none.
func FuzzLoad(f *testing.F) {
	f.Add(3, 0, uint8(4), uint8(4), uint8(0), 0)
	f.Add(3, 1, uint8(4), uint8(4), uint8(0), 0)
	f.Add(3, 2, uint8(5), uint8(2), uint8(0), 9)
	f.Add(3, 2, uint8(5), uint8(2), uint8(7), -1)
	f.Add(mostTime+1, 0, uint8(0), uint8(0), uint8(0), 0)
	f.Fuzz(func(t *testing.T, window, state int, n, left, turn uint8, at int) {
		p := parts{window: window, state: state}
		for i := range int(n) % 40 {
			r := api.Record{Window: window, Index: i, Time: i * 3, Payload: strconv.Itoa(i)}
			if i == int(turn) {
				r.Time = at
			}
			p.leaves = append(p.leaves, record.Leaf(r))
			if i < int(left) {
				p.rows = append(p.rows, r)
			}
		}
		p.stone = api.Stone{Freeze: api.Freeze{Window: window, Count: len(p.leaves), Root: rootOf(p.leaves)}, At: at}
		mayBe := func(n int) bool { return n >= 0 && n <= mostTime }
		may := mayBe(window) && (int(turn) >= len(p.rows) || mayBe(at))
		switch state {
		case api.ShardOpen:
			may = may && len(p.rows) == len(p.leaves)
		case api.ShardFrozen:
			may = may && len(p.rows) == len(p.leaves) && len(p.leaves) > 0
		case api.ShardPruned:
			may = may && len(p.leaves) > 0 && mayBe(at)
		default:
			may = false
		}
		if !may {
			p.isNone(t, "any")
			return
		}
		s, err := p.load()
		isErr(t, "Load", err, api.OK)
		is(t, "Window", s.Window(), window)
		is(t, "State", s.State(), state)
		isList(t, "Leaves", s.Leaves(), p.leaves)
		isList(t, "Rows", s.Rows(), p.rows)
		is(t, "Root", s.Root(), rootOf(p.leaves))
	})
}
