package redo_test

import (
	"math/rand"
	"slices"
	"strings"
	"testing"

	"scrinium/api"
	"scrinium/redo"
	"scrinium/sector"
)

// world is a disk with a journal on it, and calls that are made of it one behind the other: Commits of their writes, or, of none, Checkpoints.
type world struct {
	sectors, base, size int
	calls               [][]api.Put
}

// moment is what a crash left: what lies on the disk; which calls are done, a byte each; which one is next; and whether that was under way.
type moment struct {
	lies, done string
	next       int
	under      bool
}

// with is what is done when one call more is.
func with(done string, call int) string { return done + string([]byte{byte(call)}) }

// diskOf is a disk on which these bytes lie.
func diskOf(t *testing.T, lies string) *sector.Disk {
	t.Helper()
	d := sector.New(len(lies) / 256)
	for at := range d.Sectors() {
		isErr(t, "Write", d.Write(at, lies[at*256:(at+1)*256]), api.OK)
	}
	isErr(t, "Flush", d.Flush(), api.OK)
	return d
}

// lying is what lies on a disk.
func lying(d *sector.Disk) string {
	var b strings.Builder
	for at := range d.Sectors() {
		b.WriteString(d.Peek(at))
	}
	return b.String()
}

// after is what is to lie in the sectors beside the region when those calls are done, and the number of the next transaction.
func (w world) after(done string) (data []string, seq int) {
	data, seq = slices.Repeat([]string{full(0)}, w.sectors), 1
	for i := range len(done) {
		puts := w.calls[done[i]]
		for _, p := range puts {
			data[p.At] = p.S
		}
		if len(puts) > 0 {
			seq++
		}
	}
	return data, seq
}

// holds tells whether a log is as it is to be when those calls are done, by what it reads.
func (w world) holds(l *redo.Log, done string) bool {
	data, seq := w.after(done)
	for at, want := range data {
		own := at >= w.base && at < w.base+w.size
		if s, err := l.Read(at); !own && s != want || err != api.OK {
			return false
		}
	}
	return l.Seq() == seq && l.Used() == 0
}

// opened is which calls are done of a moment, by the log that was opened there: all that were told OK, and of the one under way all, or nothing.
func (w world) opened(t *testing.T, l *redo.Log, m moment) string {
	t.Helper()
	if w.holds(l, m.done) {
		return m.done
	}
	more := with(m.done, m.next)
	if !m.under || !w.holds(l, more) {
		t.Fatalf("behind %q, one under way %v: the log, with seq %d, has not what was committed", m.done, m.under, l.Seq())
	}
	return more
}

// call makes a call of a log.
func (w world) call(l *redo.Log, i int) api.Errno {
	if len(w.calls[i]) == 0 {
		return l.Checkpoint()
	}
	return l.Commit(w.calls[i]...)
}

// run opens the journal of a moment, and makes all calls that are next, with power for so many steps: what is left when it goes. With power for all, it goes behind the last call. A call that was under way, and is not done, is made again, or is given up.
func (w world) run(t *testing.T, m moment, giveUp bool, steps int) (*sector.Disk, moment) {
	t.Helper()
	d := diskOf(t, m.lies)
	d.Arm(steps)
	l, err := redo.Open(d, w.base, w.size)
	if err != api.OK {
		isErr(t, "Open", err, api.ErrPower)
		return d, m
	}
	done := w.opened(t, l, m)
	if done != m.done || m.under && giveUp {
		m.next++
	}
	m.done, m.under = done, false
	for ; m.next < len(w.calls); m.next++ {
		if err := w.call(l, m.next); err != api.OK {
			isErr(t, "a call", err, api.ErrPower)
			m.under = true
			break
		}
		m.done = with(m.done, m.next)
	}
	return d, m
}

// crashes are all moments behind a crash of a run: behind each of its steps, with every choice of what is left of the cache.
func (w world) crashes(t *testing.T, m moment, giveUp bool) (all []moment) {
	t.Helper()
	for steps := 0; ; steps++ {
		d, next := w.run(t, m, giveUp, steps)
		on, cached := d.On(), d.Cached()
		d.Crash()
		left := []string{lying(d)}
		for i := range cached {
			d, _ := w.run(t, m, giveUp, steps)
			picks := make([]int, cached)
			picks[i] = 1
			d.Crash(picks...)
			for _, lies := range left {
				left = append(left, over(lies, lying(d), left[0]))
			}
		}
		for _, lies := range left {
			next.lies = lies
			all = append(all, next)
		}
		if on {
			return all
		}
	}
}

// over is what lies on a disk with the sector over it in which another disk differs from a third.
func over(lies, with, without string) string {
	for at := 0; at < len(with); at += 256 {
		if s := with[at : at+256]; s != without[at:at+256] {
			return lies[:at] + s + lies[at+256:]
		}
	}
	return lies
}

// explore goes to each moment to which crashes lead, also such as come while the journal is opened behind others, and asks there for what was committed.
func (w world) explore(t *testing.T) (moments int) {
	t.Helper()
	d := sector.New(w.sectors)
	isErr(t, "Format", redo.Format(d, w.base, w.size), api.OK)
	first := moment{lies: lying(d)}
	seen := map[moment]bool{first: true}
	for work := []moment{first}; len(work) > 0; {
		m := work[0]
		work = work[1:]
		for _, next := range slices.Concat(w.crashes(t, m, false), w.crashes(t, m, true)) {
			if !seen[next] {
				seen[next] = true
				work = append(work, next)
			}
		}
	}
	return len(seen)
}

// P7.5: every way through some calls, with as many crashes as there may be.
func TestEveryCrash(t *testing.T) {
	a := func(at int, c byte) api.Put { return api.Put{At: at, S: full(c)} }
	line := func(at int, s string) api.Put { return api.Put{At: at, S: s} }
	for what, w := range map[string]world{
		"one after the other, in as few slots as can be": {6, 0, 5, [][]api.Put{{a(5, 'a')}, {a(5, 'b')}, {a(5, 'c')}, {a(5, 'd')}}},
		"some writes each, round the slots":              {10, 1, 7, [][]api.Put{{a(0, 'a'), a(8, 'b')}, {a(8, 'c'), a(9, 'd'), a(0, 'e')}, {a(9, 'f')}}},
		"Checkpoints among them":                         {9, 0, 7, [][]api.Put{{a(7, 'a'), a(8, 'b')}, nil, {a(8, 'c')}, nil, {a(7, 'd'), a(8, 'e')}}},
		"of one sector twice":                            {9, 1, 8, [][]api.Put{{a(0, 'a'), a(0, 'b')}, {a(0, 'c'), a(0, 'd'), a(0, 'c')}}},
		"of bytes that look like lines": {9, 0, 7, [][]api.Put{
			{line(7, redo.First(2, []int{8})), line(8, redo.Last(2, 1))},
			{line(7, redo.Last(2, 1)), line(8, redo.First(3, []int{7}))},
			{line(8, redo.Last(3, 1)), line(7, redo.Head(0, 1)), line(8, redo.First(4, []int{7}))},
		}},
		"of bytes that look like the next one's last line, where that will be": {9, 0, 7, [][]api.Put{
			{line(7, redo.Last(2, 1)), a(8, 'a'), a(7, 'b')}, {a(8, 'c')}, {line(7, redo.Last(4, 2)), a(8, 'd')}, {a(8, 'e'), a(7, 'f')},
		}},
		"of bytes that look like the last line of one that was given up": {9, 0, 7, [][]api.Put{
			{a(7, 'a')}, {a(8, 'b'), line(8, redo.Last(1, 1)), a(7, 'c')}, {a(8, 'd'), line(7, redo.Last(2, 1))},
		}},
	} {
		n := w.explore(t)
		t.Logf("%s: %d moments", what, n)
		if n < 20 {
			t.Errorf("%s: %d moments alone", what, n)
		}
	}
}

// P7.5, P7.3: crashes while a journal is made: behind each it is there, without transactions, or it can be made.
func TestCrashesOfFormat(t *testing.T) {
	for steps := range 4 {
		for picks := range 4 {
			d := sector.New(9)
			d.Arm(steps)
			err := redo.Format(d, 1, 6)
			d.Crash(picks&1, picks>>1)
			l, openErr := redo.Open(d, 1, 6)
			there := steps == 3 || steps >= 1 && picks&1 == 1
			if (err == api.OK) != (steps == 3) || (openErr == api.OK) != there || !there && openErr != api.ErrForm {
				t.Fatalf("Format, power for %d, left %02b: %d, then Open: %d", steps, picks, err, openErr)
			}
			if !there {
				isErr(t, "Format again", redo.Format(d, 1, 6), api.OK)
				l = open(t, d, 1, 6)
			}
			tells(t, "made", l, 2, 0, 1)
			for _, at := range []int{0, 7, 8} {
				if d.Peek(at) != full(0) {
					t.Errorf("Format wrote into sector %d", at)
				}
			}
		}
	}
}

// source is where a script takes its numbers from: one below n.
type source func(n int) int

// textOf is what a script writes: bytes that look like lines of numbers that may be next, or any.
func textOf(pick source, seq int) string {
	seq += pick(3)
	switch pick(6) {
	case 0:
		return redo.First(seq, make([]int, 1+pick(3)))
	case 1:
		return redo.Last(seq, 1+pick(3))
	case 2:
		return redo.Head(pick(8), seq)
	case 3:
		return full(0)
	}
	return full(byte(pick(256)))
}

// reopen crashes the disk and opens the journal, crashing again as the script has it, till power holds.
func (w world) reopen(t *testing.T, d *sector.Disk, pick source) *redo.Log {
	t.Helper()
	for tries := 0; ; tries++ {
		picks := make([]int, d.Cached())
		for i := range picks {
			picks[i] = pick(2)
		}
		d.Crash(picks...)
		if tries < 4 && pick(2) == 1 {
			d.Arm(pick(12))
		}
		l, err := redo.Open(d, w.base, w.size)
		if err == api.OK {
			return l
		}
		isErr(t, "Open", err, api.ErrPower)
	}
}

// checkScript makes calls as a script has them, with crashes among them, and asks behind each for what was committed.
func checkScript(t *testing.T, calls int, pick source) {
	t.Helper()
	w := world{base: pick(5), size: 5 + pick(70)}
	w.sectors = w.base + w.size + 1 + pick(5)
	d := sector.New(w.sectors)
	isErr(t, "Format", redo.Format(d, w.base, w.size), api.OK)
	l := open(t, d, w.base, w.size)
	done := ""
	for range calls {
		var puts []api.Put
		if pick(8) > 0 {
			for range 1 + pick(l.Room()) {
				at := pick(w.sectors - w.size)
				if at >= w.base {
					at += w.size
				}
				puts = append(puts, api.Put{At: at, S: textOf(pick, l.Seq())})
			}
		}
		w.calls = append(w.calls, puts)
		m := moment{done: done, next: len(w.calls) - 1}
		if pick(3) == 0 {
			d.Arm(pick(len(puts)*2 + 12))
		}
		if err := w.call(l, m.next); err != api.OK {
			isErr(t, "a call", err, api.ErrPower)
			m.under = true
		} else {
			m.done = with(done, m.next)
		}
		if m.under || pick(4) == 0 {
			l = w.reopen(t, d, pick)
			m.done = w.opened(t, l, m)
		}
		done = m.done
	}
}

// P7.5: long scripts of all sizes, by chance that is the same each time.
func TestScripts(t *testing.T) {
	for seed := range 150 {
		checkScript(t, 60, rand.New(rand.NewSource(int64(seed))).Intn)
	}
}

func FuzzScripts(f *testing.F) {
	f.Add([]byte("0123456789"))
	f.Add([]byte(strings.Repeat("a crash, and another one; ", 20)))
	f.Fuzz(func(t *testing.T, b []byte) {
		checkScript(t, min(len(b)/4, 60), func(n int) int {
			if len(b) == 0 {
				return 0
			}
			c := int(b[0])
			b = b[1:]
			return c % n
		})
	})
}
