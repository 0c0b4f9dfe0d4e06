package redo_test

import (
	"fmt"
	"math"
	"math/rand"
	"slices"
	"testing"

	"scrinium/api"
	"scrinium/redo"
	"scrinium/sector"
)

// journal is what the chapter says of a log, as steps of its disk.
type journal struct {
	base, size       int
	place, seq, used int
}

func (j *journal) slot(i int) int { return j.base + 1 + (j.place+i)%(j.size-1) }

func (j *journal) checkpoint() []step {
	if j.used == 0 {
		return nil
	}
	j.used = 0
	return []step{flush(), {j.base, redo.Head(j.place, j.seq)}, flush()}
}

func (j *journal) commit(puts ...api.Put) []step {
	var steps []step
	n := len(puts)
	if j.size-1-j.used < n+3 {
		steps = j.checkpoint()
	}
	steps = append(steps, step{j.slot(n + 1), full(0)}, step{j.slot(n + 2), full(0)}, flush())
	steps = append(steps, step{j.slot(0), redo.First(j.seq, sectorsOf(puts))})
	for i, p := range puts {
		steps = append(steps, step{j.slot(1 + i), p.S})
	}
	steps = append(steps, flush(), step{j.slot(n + 1), redo.Last(j.seq, n)}, flush())
	for _, p := range puts {
		steps = append(steps, step{p.At, p.S})
	}
	j.place, j.seq, j.used = (j.place+n+2)%(j.size-1), j.seq+1, j.used+n+2
	return steps
}

// doAll does steps that must work.
func doAll(t *testing.T, d *sector.Disk, steps []step) {
	t.Helper()
	for _, s := range steps {
		isErr(t, "a step", s.do(d), api.OK)
	}
}

// puts are n writes of the sectors from 20 to 29, with the byte c and those behind it.
func puts(n int, c byte) []api.Put {
	l := make([]api.Put, n)
	for i := range l {
		l[i] = api.Put{At: 20 + i%10, S: full(c + byte(i))}
	}
	return l
}

// The chapter's examples.
func TestExamples(t *testing.T) {
	d := sector.New(20)
	isErr(t, "Format", redo.Format(d, 0, 8), api.OK)
	l := open(t, d, 0, 8)
	isErr(t, "Commit", l.Commit(api.Put{At: 9, S: full('x')}), api.OK)
	tells(t, "behind it", l, 4, 3, 2)
	d.Crash()
	l = open(t, d, 0, 8)
	if s, err := l.Read(9); s != full('x') || err != api.OK {
		t.Errorf("Read(9): %.4q, %d", s, err)
	}
	tells(t, "opened again", l, 4, 0, 2)
}

// P7.4
func TestRoom(t *testing.T) {
	for size := 4; size <= 80; size++ {
		d, l := made(t, 100, 0, size)
		room := min(60, size-4)
		tells(t, fmt.Sprint("of ", size), l, room, 0, 1)
		many := slices.Repeat([]api.Put{{At: 99, S: full('x')}}, room+1)
		steps := d.Steps()
		isErr(t, "one more than Room", l.Commit(many...), api.ErrSize)
		isErr(t, "far more than Room", l.Commit(slices.Repeat(many, 100)...), api.ErrSize)
		if d.Steps() != steps {
			t.Errorf("of %d: ErrSize, and %d steps", size, d.Steps()-steps)
		}
		tells(t, "behind ErrSize", l, room, 0, 1)
		if room == 0 {
			continue
		}
		for i := range 3 {
			isErr(t, "as many as Room", l.Commit(many[:room]...), api.OK)
			if i == 0 {
				tells(t, "behind it", l, room, room+2, 2)
			}
		}
		d.Crash()
		tells(t, "opened again", open(t, d, 0, size), room, 0, 4)
	}
}

// P7.4: writes that are none, one at each place among right ones. ErrArg is named ahead of ErrSize, and nothing happens with either.
func TestCommitOfWrongWrites(t *testing.T) {
	wrong := map[string]api.Put{
		"no bytes": {At: 20, S: ""}, "255 bytes": {At: 20, S: full('x')[1:]}, "257 bytes": {At: 20, S: full('x') + "x"},
	}
	for _, at := range []int{math.MinInt, -1, 30, 31, 65535, 65536, 1 << 32, math.MaxInt, 5, 6, 9, 13, 14} {
		wrong[fmt.Sprint("sector ", at)] = api.Put{At: at, S: full('x')}
	}
	d, l := made(t, 30, 5, 10)
	isErr(t, "Commit", l.Commit(puts(1, 'a')...), api.OK)
	steps := d.Steps()
	isErr(t, "of none", l.Commit(), api.ErrArg)
	isErr(t, "of none", l.Commit([]api.Put{}...), api.ErrArg)
	for what, p := range wrong {
		for n := 1; n <= 8; n++ { // Room is 6
			for i := range n {
				all := puts(n, 'p')
				all[i] = p
				isErr(t, what, l.Commit(all...), api.ErrArg)
			}
		}
	}
	if d.Steps() != steps {
		t.Errorf("%d steps were done", d.Steps()-steps)
	}
	tells(t, "behind wrong writes", l, 6, 3, 2)
	isErr(t, "Commit", l.Commit(puts(1, 'b')...), api.OK)
	tells(t, "behind a right one", l, 6, 6, 3)
}

// P7.4: all sectors beside the region can be written, those next to it and at both ends of the disk too.
func TestCommitOfEachSector(t *testing.T) {
	for base := range 9 {
		d, l := made(t, 14, base, 6)
		for at := range 14 {
			want := api.OK
			if at >= base && at < base+6 {
				want = api.ErrArg
			}
			isErr(t, fmt.Sprint("sector ", at, ", the region from ", base), l.Commit(api.Put{At: at, S: full('x')}), want)
		}
		d.Crash()
		open(t, d, base, 6)
		for at := range 14 {
			if (at < base || at >= base+6) && d.Peek(at) != full('x') {
				t.Errorf("sector %d was not written", at)
			}
		}
	}
}

// P7.4: the steps of a Commit of each size, behind each row of others, so that there are just enough slots left, or just not, at each place.
func TestStepsOfCommit(t *testing.T) {
	for _, ahead := range [][]int{nil, {1}, {2}, {3}, {4}, {5}, {1, 1}, {1, 2}, {2, 2}, {1, 5}, {5, 5}, {4, 5, 3}, {1, 1, 1, 1}} {
		for n := 1; n <= 5; n++ {
			j := journal{base: 2, size: 9, seq: 1}
			setUp := func() (*sector.Disk, func() api.Errno) {
				d, l := made(t, 30, 2, 9)
				j = journal{base: 2, size: 9, seq: 1}
				for i, m := range ahead {
					isErr(t, "ahead", l.Commit(puts(m, byte('a'+i))...), api.OK)
					j.commit(puts(m, byte('a'+i))...)
				}
				return d, func() api.Errno { return l.Commit(puts(n, 'p')...) }
			}
			setUp()
			isSteps(t, fmt.Sprint("Commit of ", n, " behind ", ahead), setUp, j.commit(puts(n, 'p')...)...)
		}
	}
}

// P7.4: when slots run short, at the edge: as many as it needs and one more are enough, one less is not.
func TestCommitAtTheEdgeOfSlots(t *testing.T) {
	for size := 5; size <= 70; size++ {
		for _, first := range []int{1, 2, 5, 60} {
			for n := 1; n <= min(60, size-4); n++ {
				_, l := made(t, 100, 30, size)
				if first > l.Room() {
					continue
				}
				isErr(t, "first", l.Commit(puts(first, 'a')...), api.OK)
				isErr(t, "second", l.Commit(puts(n, 'b')...), api.OK)
				used := first + 2 + n + 2
				if size-1-(first+2) < n+3 {
					used = n + 2
				}
				tells(t, fmt.Sprint(first, " and ", n, " of ", size), l, min(60, size-4), used, 3)
			}
		}
	}
}

// P7.4
func TestStepsOfCheckpoint(t *testing.T) {
	isSteps(t, "without slots used", func() (*sector.Disk, func() api.Errno) {
		d, l := made(t, 30, 2, 9)
		isErr(t, "Write", d.Write(29, full('w')), api.OK)
		return d, l.Checkpoint
	})
	for _, ahead := range [][]int{{1}, {3}, {5}, {1, 1}, {2, 5}, {5, 5}} {
		j := journal{base: 2, size: 9, seq: 1}
		for i, n := range ahead {
			j.commit(puts(n, byte('a'+i))...)
		}
		setUp := func() (*sector.Disk, func() api.Errno) {
			d, l := made(t, 30, 2, 9)
			for i, n := range ahead {
				isErr(t, "ahead", l.Commit(puts(n, byte('a'+i))...), api.OK)
			}
			return d, l.Checkpoint
		}
		isSteps(t, fmt.Sprint("Checkpoint behind ", ahead), setUp, j.checkpoint()...)
		isSteps(t, fmt.Sprint("a second one behind ", ahead), func() (*sector.Disk, func() api.Errno) {
			d, first := setUp()
			isErr(t, "Checkpoint", first(), api.OK)
			return d, first
		})
	}
}

// P7.4: Room, Used and Seq behind each call.
func TestToldBehindEach(t *testing.T) {
	d, l := made(t, 30, 0, 12)
	tells(t, "opened", l, 8, 0, 1)
	isErr(t, "Checkpoint", l.Checkpoint(), api.OK)
	tells(t, "Checkpoint of nothing", l, 8, 0, 1)
	isErr(t, "Commit", l.Commit(puts(2, 'a')...), api.OK)
	tells(t, "Commit of 2", l, 8, 4, 2)
	isErr(t, "Commit", l.Commit(puts(4, 'b')...), api.OK)
	tells(t, "Commit of 4", l, 8, 10, 3)
	isErr(t, "Commit", l.Commit(puts(1, 'c')...), api.OK)
	tells(t, "Commit of 1, for which there were no slots", l, 8, 3, 4)
	isErr(t, "Checkpoint", l.Checkpoint(), api.OK)
	tells(t, "Checkpoint", l, 8, 0, 4)
	isErr(t, "Checkpoint", l.Checkpoint(), api.OK)
	tells(t, "Checkpoint again", l, 8, 0, 4)
	isErr(t, "Commit", l.Commit(puts(8, 'd')...), api.OK)
	tells(t, "Commit of 8", l, 8, 10, 5)
	l = open(t, d, 0, 12)
	tells(t, "opened again", l, 8, 0, 5)
	d.Crash()
	tells(t, "behind a crash", open(t, d, 0, 12), 8, 0, 5)
}

// P7.4: again and again round the slots, of all sizes, Checkpoints among them: what is told, and what lies there.
func TestRoundAndRound(t *testing.T) {
	for size := 5; size <= 70; size += 1 + size/20 {
		r := rand.New(rand.NewSource(int64(size)))
		d, l := made(t, 30+size, 30, size)
		m, _ := made(t, 30+size, 30, size)
		j := journal{base: 30, size: size, seq: 1}
		room := min(60, size-4)
		for i := range 300 {
			if r.Intn(6) == 0 {
				isErr(t, "Checkpoint", l.Checkpoint(), api.OK)
				doAll(t, m, j.checkpoint())
			} else {
				all := puts(1+r.Intn(room), byte(i))
				isErr(t, "Commit", l.Commit(all...), api.OK)
				doAll(t, m, j.commit(all...))
			}
			tells(t, fmt.Sprint("call ", i, ", of ", size), l, room, j.used, j.seq)
			if d.Steps() != m.Steps() || d.Cached() != m.Cached() {
				t.Fatalf("call %d, of %d: %d steps, %d cached, want %d, %d", i, size, d.Steps(), d.Cached(), m.Steps(), m.Cached())
			}
			sameLies(t, fmt.Sprint("call ", i, ", of ", size), d, m)
		}
	}
}

// P7.4: what Read tells is what the disk's Read does; its errors break nothing.
func TestRead(t *testing.T) {
	d, l := made(t, 30, 2, 9)
	isErr(t, "Commit", l.Commit(puts(3, 'a')...), api.OK)
	for at := -2; at < 33; at++ {
		want, wantErr := d.Read(at)
		if s, err := l.Read(at); s != want || err != wantErr {
			t.Errorf("Read(%d): %.4q, %d, want %.4q, %d", at, s, err, want, wantErr)
		}
	}
	for _, at := range []int{math.MinInt, math.MaxInt} {
		if s, err := l.Read(at); s != "" || err != api.ErrArg {
			t.Errorf("Read(%d): %.4q, %d", at, s, err)
		}
	}
	d.Arm(0)
	isErr(t, "Flush", d.Flush(), api.ErrPower)
	if s, err := l.Read(20); s != "" || err != api.ErrPower {
		t.Errorf("Read without power: %.4q, %d", s, err)
	}
	isErr(t, "Commit of none, without power", l.Commit(), api.ErrArg)
	isErr(t, "Commit of too many, without power", l.Commit(puts(6, 'a')...), api.ErrSize)
	d.Crash()
	if _, err := l.Read(20); err != api.OK {
		t.Errorf("Read behind one that told an error: %d", err)
	}
	isErr(t, "Commit", l.Commit(puts(1, 'b')...), api.OK)
}

// P7.4: two writes of one sector, in one transaction: the last one is what is read, also behind a crash.
func TestCommitOfOneSectorTwice(t *testing.T) {
	d, l := made(t, 30, 2, 12)
	isErr(t, "Commit", l.Commit(api.Put{At: 20, S: full('a')}, api.Put{At: 21, S: full('b')}, api.Put{At: 20, S: full('c')}), api.OK)
	for range 2 {
		for at, want := range map[int]string{20: full('c'), 21: full('b')} {
			if s, err := l.Read(at); s != want || err != api.OK {
				t.Errorf("Read(%d): %.4q, %d", at, s, err)
			}
		}
		d.Crash()
		l = open(t, d, 2, 12)
	}
}

// isBroken fails if a log's calls tell other things than ErrState, or do anything.
func isBroken(t *testing.T, what string, d *sector.Disk, l *redo.Log) {
	t.Helper()
	steps, cached := d.Steps(), d.Cached()
	for range 2 {
		isErr(t, what+": Commit", l.Commit(puts(1, 'x')...), api.ErrState)
		isErr(t, what+": Commit of none", l.Commit(), api.ErrState)
		isErr(t, what+": Commit of wrong ones", l.Commit(api.Put{At: -1}), api.ErrState)
		isErr(t, what+": Commit of too many", l.Commit(puts(90, 'x')...), api.ErrState)
		isErr(t, what+": Checkpoint", l.Checkpoint(), api.ErrState)
		for _, at := range []int{-1, 0, 20, math.MaxInt} {
			if s, err := l.Read(at); s != "" || err != api.ErrState {
				t.Errorf("%s: Read(%d): %.4q, %d", what, at, s, err)
			}
		}
	}
	if d.Steps() != steps || d.Cached() != cached {
		t.Errorf("%s: %d steps were done", what, d.Steps()-steps)
	}
}

// P7.4: power goes behind each step of a Commit or Checkpoint: the log is broken, with and without power, till it is opened anew. R2: it tells what it told ahead of the call, but that a Checkpoint that was done counts.
func TestBrokenLogs(t *testing.T) {
	for what, call := range map[string]func(l *redo.Log) api.Errno{
		"Commit":                     func(l *redo.Log) api.Errno { return l.Commit(puts(1, 'p')...) },
		"Commit with its Checkpoint": func(l *redo.Log) api.Errno { return l.Commit(puts(5, 'p')...) },
		"Checkpoint":                 func(l *redo.Log) api.Errno { return l.Checkpoint() },
	} {
		for steps := 0; ; steps++ {
			d, l := made(t, 30, 2, 10)
			isErr(t, "Commit", l.Commit(puts(2, 'a')...), api.OK)
			d.Arm(steps)
			err := call(l)
			if err == api.OK {
				if steps < 3 {
					t.Errorf("%s has %d steps", what, steps)
				}
				break
			}
			isErr(t, what, err, api.ErrPower)
			used := 4
			if what == "Commit with its Checkpoint" && steps >= 3 {
				used = 0
			}
			tells(t, what+", broken", l, 6, used, 2)
			isBroken(t, what+", without power", d, l)
			d.Crash()
			isBroken(t, what+", with power again", d, l)
			tells(t, what+", broken", l, 6, used, 2)
			again := open(t, d, 2, 10)
			isBroken(t, what+", and another one opened", d, l)
			if s, err := again.Read(20); err != api.OK || s != full('a') && s != full('p') {
				t.Errorf("%s, opened anew: %.4q, %d", what, s, err)
			}
			isErr(t, "Commit, opened anew", again.Commit(puts(1, 'z')...), api.OK)
			isErr(t, "Checkpoint, opened anew", again.Checkpoint(), api.OK)
		}
	}
}

// P7.4: a Checkpoint that has nothing to do asks nothing of the disk.
func TestCheckpointOfNothingWithoutPower(t *testing.T) {
	d, l := made(t, 30, 2, 9)
	d.Arm(0)
	isErr(t, "Checkpoint", l.Checkpoint(), api.OK)
	if !d.On() {
		t.Error("Checkpoint of nothing did a step")
	}
	isErr(t, "Flush", d.Flush(), api.ErrPower)
	isErr(t, "Checkpoint without power", l.Checkpoint(), api.OK)
	d.Crash()
	isErr(t, "Commit", l.Commit(puts(1, 'a')...), api.OK)
}

// R1, P1
func TestNilAndZeroLogs(t *testing.T) {
	for _, c := range []struct {
		l    *redo.Log
		want api.Errno
	}{{nil, api.ErrArg}, {&redo.Log{}, api.ErrState}} {
		for range 2 {
			tells(t, "no log", c.l, 0, 0, 0)
			isErr(t, "Commit", c.l.Commit(puts(1, 'x')...), c.want)
			isErr(t, "Commit of none", c.l.Commit(), c.want)
			isErr(t, "Commit of many", c.l.Commit(puts(100, 'x')...), c.want)
			isErr(t, "Checkpoint", c.l.Checkpoint(), c.want)
			for _, at := range []int{math.MinInt, -1, 0, 9, math.MaxInt} {
				if s, err := c.l.Read(at); s != "" || err != c.want {
					t.Errorf("Read(%d): %q, %d", at, s, err)
				}
			}
		}
	}
}

// R3: writes that were handed in stay as they are, and may be changed behind the call.
func TestWritesAreTheirOwners(t *testing.T) {
	d, l := made(t, 30, 2, 12)
	handed := append(make([]api.Put, 0, 9), puts(3, 'a')...)
	isErr(t, "Commit", l.Commit(handed...), api.OK)
	if !slices.Equal(handed[:4], append(puts(3, 'a'), api.Put{})) {
		t.Error("Commit changed what it was handed")
	}
	clear(handed)
	isErr(t, "Commit", l.Commit(puts(1, 'z')...), api.OK)
	d.Crash()
	l = open(t, d, 2, 12)
	for at, want := range map[int]string{20: full('z'), 21: full('b'), 22: full('c')} {
		if s, _ := l.Read(at); s != want {
			t.Errorf("Read(%d): %.4q, want %.4q", at, s, want)
		}
	}
}

// R4: the same calls have the same answers, and logs share nothing but their disk.
func TestLogsShareNothing(t *testing.T) {
	d := sector.New(40)
	isErr(t, "Format", redo.Format(d, 0, 8), api.OK)
	isErr(t, "Format", redo.Format(d, 8, 10), api.OK)
	a, b := open(t, d, 0, 8), open(t, d, 8, 10)
	isErr(t, "Commit", a.Commit(puts(2, 'a')...), api.OK)
	tells(t, "a", a, 4, 4, 2)
	tells(t, "b", b, 6, 0, 1)
	isErr(t, "Commit", b.Commit(puts(3, 'p')...), api.OK)
	isErr(t, "Checkpoint", a.Checkpoint(), api.OK)
	tells(t, "a", a, 4, 0, 2)
	tells(t, "b", b, 6, 5, 2)
	d.Crash()
	tells(t, "b, opened again", open(t, d, 8, 10), 6, 0, 2)
	if d.Peek(20) != full('p') || d.Peek(22) != full('r') {
		t.Error("b's writes are not there")
	}
}
