package redo_test

import (
	"fmt"
	"math"
	"testing"

	"scrinium/api"
	"scrinium/redo"
	"scrinium/sector"
)

func isErr(t *testing.T, what string, got, want api.Errno) {
	t.Helper()
	if got != want {
		t.Errorf("%s: %d, want %d", what, got, want)
	}
}

// tells fails if a log doesn't tell these.
func tells(t *testing.T, what string, l *redo.Log, room, used, seq int) {
	t.Helper()
	if l.Room() != room || l.Used() != used || l.Seq() != seq {
		t.Errorf("%s: room %d, used %d, seq %d; want %d, %d, %d", what, l.Room(), l.Used(), l.Seq(), room, used, seq)
	}
}

// open opens a journal that can be opened.
func open(t *testing.T, d *sector.Disk, base, size int) *redo.Log {
	t.Helper()
	l, err := redo.Open(d, base, size)
	if l == nil || err != api.OK {
		t.Fatalf("Open(%d, %d): %v, %d", base, size, l, err)
	}
	return l
}

// made is a disk with a new journal on it, and this one opened.
func made(t *testing.T, sectors, base, size int) (*sector.Disk, *redo.Log) {
	t.Helper()
	d := sector.New(sectors)
	isErr(t, "Format", redo.Format(d, base, size), api.OK)
	return d, open(t, d, base, size)
}

// noLog fails if Open tells a log, or another error.
func noLog(t *testing.T, what string, d *sector.Disk, base, size int, want api.Errno) {
	t.Helper()
	l, err := redo.Open(d, base, size)
	if l != nil || err != want {
		t.Errorf("%s: Open(%d, %d): %v, %d, want nil, %d", what, base, size, l != nil, err, want)
	}
}

// put writes sectors, and flushes them.
func put(t *testing.T, d *sector.Disk, at int, sectors ...string) {
	t.Helper()
	for i, s := range sectors {
		isErr(t, "Write", d.Write(at+i, s), api.OK)
	}
	isErr(t, "Flush", d.Flush(), api.OK)
}

// step is a step of a disk: a Write, or, at below 0, a Flush.
type step struct {
	at int
	s  string
}

func flush() step { return step{at: -1} }

func (s step) do(d *sector.Disk) api.Errno {
	if s.at < 0 {
		return d.Flush()
	}
	return d.Write(s.at, s.s)
}

// isSteps fails if a call does other steps than those wanted, or, behind any number of them, doesn't tell that power went. A call is set up anew for each question: behind each step, what lies on the disk, and each write of the cache, are held against a disk that was made likewise, and does the wanted steps.
func isSteps(t *testing.T, what string, setUp func() (*sector.Disk, func() api.Errno), want ...step) {
	t.Helper()
	for steps := range len(want) + 2 {
		for pick := -1; ; pick++ {
			d, call := setUp()
			d.Arm(steps)
			wantErr := api.OK
			if steps < len(want) {
				wantErr = api.ErrPower
			}
			isErr(t, fmt.Sprint(what, ", power for ", steps), call(), wantErr)
			m, _ := setUp()
			for _, s := range want[:min(steps, len(want))] {
				isErr(t, "a wanted step", s.do(m), api.OK)
			}
			if d.Cached() != m.Cached() || d.Steps() != m.Steps() {
				t.Fatalf("%s, power for %d: %d cached, %d done, want %d, %d", what, steps, d.Cached(), d.Steps(), m.Cached(), m.Steps())
			}
			if pick >= d.Cached() {
				break
			}
			picks := make([]int, pick+1)
			if pick >= 0 {
				picks[pick] = 1
			}
			d.Crash(picks...)
			m.Crash(picks...)
			sameLies(t, fmt.Sprint(what, ", power for ", steps, ", pick ", pick), d, m)
		}
	}
}

// sameLies fails if other bytes lie on a disk than on another one.
func sameLies(t *testing.T, what string, got, want *sector.Disk) {
	t.Helper()
	for at := range want.Sectors() {
		if got.Peek(at) != want.Peek(at) {
			t.Fatalf("%s: in sector %d lies %.16q, want %.16q", what, at, got.Peek(at), want.Peek(at))
		}
	}
}

// P7.3: regions that are none, on disks of some sizes, and at both ends of what is one.
func TestRegions(t *testing.T) {
	numbers := []int{math.MinInt, math.MinInt + 4, -65536, -4, -1, 0, 1, 2, 3, 4, 5, 6, 7, 8, 16, 17, 65532, 65533, 65535, 65536, 65537, 1 << 32, math.MaxInt - 3, math.MaxInt}
	for _, sectors := range []int{1, 3, 4, 5, 8, 20, 65536} {
		for _, base := range numbers {
			for _, size := range numbers {
				is := base >= 0 && base < 65536 && size >= 4 && size <= 65536 && base+size <= sectors
				if sectors == 65536 && is && size > 8 && base > 0 { // one of the greatest is enough
					continue
				}
				checkRegion(t, sectors, base, size, is)
			}
		}
	}
}

func checkRegion(t *testing.T, sectors, base, size int, is bool) {
	t.Helper()
	d := sector.New(sectors)
	if !is {
		isErr(t, fmt.Sprint("Format ", base, size, " of ", sectors), redo.Format(d, base, size), api.ErrArg)
		noLog(t, "no region", d, base, size, api.ErrArg)
		if d.Steps() != 0 {
			t.Errorf("no region: %d steps", d.Steps())
		}
		return
	}
	noLog(t, "not made", d, base, size, api.ErrForm)
	if d.Steps() != 0 {
		t.Errorf("not made: %d steps", d.Steps())
	}
	isErr(t, "Format", redo.Format(d, base, size), api.OK)
	tells(t, fmt.Sprint("of ", size), open(t, d, base, size), min(60, size-4), 0, 1)
}

// P7.3, P1: nil and zero disks, and such as have no power. ErrArg is named first.
func TestDisksThatAreNone(t *testing.T) {
	off := sector.New(9)
	off.Arm(0)
	off.Flush()
	for _, d := range []*sector.Disk{nil, {}, off} {
		want := api.ErrArg
		if d == off {
			want = api.ErrPower
		}
		for _, size := range []int{-1, 0, 3, 10, 65537} {
			isErr(t, "Format", redo.Format(d, 0, size), api.ErrArg)
			noLog(t, "no region", d, 0, size, api.ErrArg)
		}
		isErr(t, "Format", redo.Format(d, 0, 9), want)
		noLog(t, "no disk", d, 0, 9, want)
	}
}

// P7.3
func TestFormat(t *testing.T) {
	isSteps(t, "Format", func() (*sector.Disk, func() api.Errno) {
		d := sector.New(12)
		for at := range 12 {
			put(t, d, at, full(byte('a'+at)))
		}
		return d, func() api.Errno { return redo.Format(d, 3, 7) }
	}, step{3, redo.Head(0, 1)}, step{4, full(0)}, flush())
}

// P7.3: of a journal that was, no transaction is found behind Format, whatever its seqs are.
func TestFormatAgain(t *testing.T) {
	d, l := made(t, 20, 0, 12)
	for i := range 3 {
		isErr(t, "Commit", l.Commit(api.Put{At: 15, S: full(byte('a' + i))}), api.OK)
	}
	put(t, d, 15, full('z'))
	isErr(t, "Format", redo.Format(d, 0, 12), api.OK)
	l = open(t, d, 0, 12)
	tells(t, "made again", l, 8, 0, 1)
	if s, err := l.Read(15); s != full('z') || err != api.OK {
		t.Errorf("an elder transaction was done: %.4q, %d", s, err)
	}
	isErr(t, "Commit", l.Commit(api.Put{At: 16, S: full('y')}), api.OK)
	d.Crash()
	l = open(t, d, 0, 12)
	tells(t, "made again, and committed", l, 8, 0, 2)
	if s, _ := l.Read(15); s != full('z') {
		t.Errorf("an elder transaction was done: %.4q", s)
	}
}

// onDisk is a disk on which a region lies from base on, and other bytes in each other sector.
func onDisk(t *testing.T, sectors, base int, region []string) *sector.Disk {
	t.Helper()
	d := sector.New(sectors)
	for at := range sectors {
		put(t, d, at, full(byte('a'+at)))
	}
	put(t, d, base, region...)
	return d
}

// P7.3: without transactions; with one; with some; with such as fill all slots.
func TestOpen(t *testing.T) {
	for place := range 9 {
		for _, sizes := range [][]int{nil, {1}, {3}, {7}, {1, 1}, {2, 3}, {1, 1, 1}, {4, 1}} {
			region := regionOf(place, 40, 9)
			told := found{place: place, seq: 40}
			var want []step
			for i, n := range sizes {
				var puts []api.Put
				for j := range n {
					p := api.Put{At: []int{0, 13, 14, 1, 0}[(i+j)%5], S: full(byte(10*i + j))}
					puts = append(puts, p)
					want = append(want, step{p.At, p.S})
				}
				told.place, told.seq = lay(region, told.place, told.seq, puts), told.seq+1
			}
			if len(sizes) > 0 {
				want = append(want, flush(), step{2, redo.Head(told.place, told.seq)})
			}
			want = append(want, step{3 + told.place, full(0)}, flush())
			isSteps(t, fmt.Sprint("Open of ", sizes, " from ", place), func() (*sector.Disk, func() api.Errno) {
				d := onDisk(t, 15, 2, region)
				return d, func() api.Errno {
					l, err := redo.Open(d, 2, 10)
					if (l == nil) != (err != api.OK) {
						t.Errorf("Open: %v, %d", l, err)
					}
					return err
				}
			}, want...)
			d := onDisk(t, 15, 2, region)
			l := open(t, d, 2, 10)
			tells(t, "Open", l, 6, 0, told.seq)
			tells(t, "Open again", open(t, d, 2, 10), 6, 0, told.seq)
		}
	}
}

// P7.3: what Scan doesn't tell is no journal, and is left as it is.
func TestOpenOfNoJournal(t *testing.T) {
	for what, head := range map[string]string{
		"bytes 0":           full(0),
		"a place too great": redo.Head(5, 1),
		"a seq of 0":        redo.Head(0, 0),
		"a seq too great":   redo.Head(0, mostHeadSeq+1),
		"a first line":      redo.First(1, []int{0}),
	} {
		region := regionOf(0, 1, 5)
		region[0] = head
		d := onDisk(t, 8, 1, region)
		steps := d.Steps()
		noLog(t, what, d, 1, 6, api.ErrForm)
		if d.Steps() != steps {
			t.Errorf("%s: %d steps", what, d.Steps()-steps)
		}
	}
}

// P7.3: a journal is opened where it was made, and of its size; one of another size is another one.
func TestOpenElsewhere(t *testing.T) {
	d, l := made(t, 30, 5, 10)
	isErr(t, "Commit", l.Commit(api.Put{At: 20, S: full('x')}), api.OK)
	for base := range 26 {
		if base != 5 {
			noLog(t, "elsewhere", d, base, 4, api.ErrForm)
		}
	}
	d.Crash()
	open(t, d, 5, 10)
	if d.Peek(20) != full('x') {
		t.Errorf("what was committed is not there: %.4q", d.Peek(20))
	}
}

// P7.3: what is written and not flushed is read, as the disk tells it.
func TestOpenReadsTheCache(t *testing.T) {
	region := regionOf(1, 8, 5)
	want := layAll(region, 1, 8, 2)
	d := sector.New(900)
	for i, s := range region {
		isErr(t, "Write", d.Write(i, s), api.OK)
	}
	tells(t, "Open", open(t, d, 0, 6), 2, 0, 9)
	for _, p := range want.all[0] {
		if d.Peek(p.At) != p.S {
			t.Errorf("the write of %d was not done: %.4q", p.At, d.Peek(p.At))
		}
	}
}

// P7.3: errors of the disk are told: a transaction's sector may be none of it.
func TestOpenTellsTheDisksErrors(t *testing.T) {
	for _, at := range []int{12, 13, lastSector} {
		region := regionOf(0, 3, 5)
		lay(region, 0, 3, []api.Put{{At: 11, S: full('x')}, {At: at, S: full('y')}})
		d := onDisk(t, 12, 0, region)
		noLog(t, "a sector that there isn't", d, 0, 6, api.ErrArg)
		d.Crash()
		for i, s := range region {
			if d.Peek(i) != s {
				t.Errorf("the region was changed at %d: %.4q", i, d.Peek(i))
			}
		}
	}
}
