package sector_test

import (
	"math"
	"strings"
	"testing"

	"scrinium/api"
	"scrinium/sector"
)

// full is a sector of one byte alone.
func full(c byte) string { return strings.Repeat(string([]byte{c}), 256) }

func isErr(t *testing.T, what string, got, want api.Errno) {
	t.Helper()
	if got != want {
		t.Fatalf("%s: %v, want %v", what, got, want)
	}
}

// reads fails if a sector is read otherwise than as a byte alone.
func reads(t *testing.T, d *sector.Disk, at int, want byte) {
	t.Helper()
	if got, err := d.Read(at); err != api.OK || got != full(want) {
		t.Fatalf("Read(%d): %q, %v, want %q", at, short(got), err, want)
	}
}

// readsNot fails if anything is told beside an error.
func readsNot(t *testing.T, d *sector.Disk, at int, want api.Errno) {
	t.Helper()
	if got, err := d.Read(at); err != want || got != "" {
		t.Fatalf("Read(%d): %q, %v, want nothing, %v", at, short(got), err, want)
	}
}

// lies fails if something else lies in a sector than a byte alone.
func lies(t *testing.T, d *sector.Disk, at int, want byte) {
	t.Helper()
	if got := d.Peek(at); got != full(want) {
		t.Fatalf("Peek(%d): %q, want %q", at, short(got), want)
	}
}

// short is the beginning of a text: a sector's bytes are more than one likes to read.
func short(s string) string { return s[:min(len(s), 4)] }

// tells fails if a disk tells otherwise of its power, its steps and its cache.
func tells(t *testing.T, d *sector.Disk, on bool, steps, cached int) {
	t.Helper()
	if d.On() != on || d.Steps() != steps || d.Cached() != cached {
		t.Fatalf("On, Steps, Cached: %v, %d, %d, want %v, %d, %d", d.On(), d.Steps(), d.Cached(), on, steps, cached)
	}
}

// write writes bytes to sectors, such as "0a1b", and fails if one is not told OK.
func write(t *testing.T, d *sector.Disk, script string) {
	t.Helper()
	for i := 0; i < len(script); i += 2 {
		isErr(t, "Write "+script[i:i+2], d.Write(int(script[i]-'0'), full(script[i+1])), api.OK)
	}
}

// places are some at which a disk of n sectors, however many, has none.
func places(n int) []int {
	return []int{-1, -2, -256, math.MinInt, math.MinInt + 1, n, n + 1, n + 256, 65536, 65537, math.MaxInt}
}

// The chapter's examples.
func TestExamples(t *testing.T) {
	d := sector.New(1)
	write(t, d, "0x")
	reads(t, d, 0, 'x')
	lies(t, d, 0, 0)
	d.Crash(0)
	reads(t, d, 0, 0)

	d = sector.New(1)
	write(t, d, "0x")
	isErr(t, "Flush", d.Flush(), api.OK)
	d.Crash()
	reads(t, d, 0, 'x')

	d = sector.New(1)
	d.Arm(1)
	isErr(t, "Write", d.Write(0, full('x')), api.OK)
	isErr(t, "Write", d.Write(0, full('x')), api.ErrPower)
	tells(t, d, false, 1, 1)
}

// P5.2
func TestNew(t *testing.T) {
	for n, want := range map[int]int{
		math.MinInt: 1, -65536: 1, -1: 1, 0: 1, 1: 1, 2: 2, 3: 3, 580: 580,
		65535: 65535, 65536: 65536, 65537: 65536, 1 << 40: 65536, math.MaxInt: 65536,
	} {
		d := sector.New(n)
		if got := d.Sectors(); got != want {
			t.Fatalf("Sectors of New(%d): %d, want %d", n, got, want)
		}
		tells(t, d, true, 0, 0)
		for at := range want {
			lies(t, d, at, 0)
			reads(t, d, at, 0)
		}
		for _, at := range places(want) {
			readsNot(t, d, at, api.ErrArg)
		}
	}
}

// P5.2: a new disk is not armed: it does more steps than any number that might be meant by none.
func TestNewIsNotArmed(t *testing.T) {
	d := sector.New(3)
	for i := range 1000 {
		write(t, d, "2a")
		tells(t, d, true, 2*i+1, 1)
		isErr(t, "Flush", d.Flush(), api.OK)
		tells(t, d, true, 2*i+2, 0)
	}
}

// P5.2, P5.4: there is no such sector.
func TestNoSuchSector(t *testing.T) {
	for _, n := range []int{1, 2, 7, 65536} {
		d := sector.New(n)
		for _, at := range places(n) {
			readsNot(t, d, at, api.ErrArg)
			isErr(t, "Write", d.Write(at, full('a')), api.ErrArg)
			isErr(t, "Write of nothing", d.Write(at, ""), api.ErrArg)
			if got := d.Peek(at); got != "" {
				t.Errorf("Peek(%d) of %d sectors: %d bytes", at, n, len(got))
			}
		}
		tells(t, d, true, 0, 0)
		reads(t, d, 0, 0)
		reads(t, d, n-1, 0)
		isErr(t, "Write of the last one", d.Write(n-1, full('z')), api.OK)
		reads(t, d, n-1, 'z')
		isErr(t, "Flush", d.Flush(), api.OK)
		lies(t, d, n-1, 'z')
	}
}

// P5.2, R5: a write has 256 bytes, no more, no fewer.
func TestWritesOfOtherLengths(t *testing.T) {
	d := sector.New(2)
	write(t, d, "0a")
	for n := range 600 {
		if n != 256 {
			isErr(t, "Write", d.Write(0, text(n)), api.ErrArg)
		}
	}
	isErr(t, "Write of 512 bytes", d.Write(0, full('x')+full('x')), api.ErrArg)
	isErr(t, "Write of a long text", d.Write(0, text(api.MaxText+1)), api.ErrArg)
	tells(t, d, true, 1, 1)
	reads(t, d, 0, 'a')
	lies(t, d, 0, 0)
}

// P5.2: the bytes come back as they were, whatever they are.
func TestWritesOfAllBytes(t *testing.T) {
	d := sector.New(256)
	for c := range 256 {
		s := text(256)[c:] + text(256)[:c]
		isErr(t, "Write", d.Write(c, s), api.OK)
		if got, err := d.Read(c); got != s || err != api.OK {
			t.Fatalf("Read(%d) from the cache: % x, %v", c, got, err)
		}
	}
	isErr(t, "Flush", d.Flush(), api.OK)
	for c := range 256 {
		s := text(256)[c:] + text(256)[:c]
		if got, err := d.Read(c); got != s || err != api.OK || d.Peek(c) != s {
			t.Fatalf("Read(%d): % x, %v", c, got, err)
		}
	}
}

// P5.2: the cache's last write of a sector is read, whatever other sectors get.
func TestReadsTheLastWrite(t *testing.T) {
	d := sector.New(4)
	write(t, d, "0a")
	reads(t, d, 0, 'a')
	write(t, d, "1b")
	reads(t, d, 0, 'a')
	reads(t, d, 1, 'b')
	write(t, d, "0c2d0e")
	reads(t, d, 0, 'e')
	write(t, d, "1f3g")
	for at, want := range []byte("efdg") {
		reads(t, d, at, want)
		lies(t, d, at, 0)
	}
	tells(t, d, true, 7, 7)
	write(t, d, "0a")
	reads(t, d, 0, 'a')
}

// P5.2: what lies there is read, where the cache has no write of that sector.
func TestReadsWhatLies(t *testing.T) {
	d := sector.New(3)
	write(t, d, "0a1b")
	isErr(t, "Flush", d.Flush(), api.OK)
	write(t, d, "1c")
	reads(t, d, 0, 'a')
	reads(t, d, 1, 'c')
	reads(t, d, 2, 0)
	lies(t, d, 1, 'b')
}

// P5.2, P5.5: a Flush lays all writes down, the last one of a sector on top, and empties the cache.
func TestFlush(t *testing.T) {
	d := sector.New(3)
	write(t, d, "0a1b0c0d1e")
	tells(t, d, true, 5, 5)
	isErr(t, "Flush", d.Flush(), api.OK)
	tells(t, d, true, 6, 0)
	for at, want := range []byte("de\x00") {
		lies(t, d, at, want)
		reads(t, d, at, want)
	}
	isErr(t, "Flush of nothing", d.Flush(), api.OK)
	tells(t, d, true, 7, 0)
	d.Crash()
	for at, want := range []byte("de\x00") {
		lies(t, d, at, want)
	}
}

// P5.2: a write of what lies there already is a write as any other.
func TestWriteOfTheSame(t *testing.T) {
	d := sector.New(1)
	write(t, d, "0a0a")
	tells(t, d, true, 2, 2)
	isErr(t, "Flush", d.Flush(), api.OK)
	write(t, d, "0a")
	tells(t, d, true, 4, 1)
	isErr(t, "Write of bytes 0", d.Write(0, full(0)), api.OK)
	reads(t, d, 0, 0)
	lies(t, d, 0, 'a')
}

// P5.2: reads and questions change nothing.
func TestQuestionsChangeNothing(t *testing.T) {
	d := sector.New(2)
	write(t, d, "0a")
	d.Arm(1)
	for range 100 {
		reads(t, d, 0, 'a')
		reads(t, d, 1, 0)
		readsNot(t, d, 2, api.ErrArg)
		lies(t, d, 0, 0)
		tells(t, d, true, 1, 1)
	}
	isErr(t, "Write", d.Write(1, full('b')), api.OK)
	isErr(t, "Write", d.Write(1, full('c')), api.ErrPower)
}

// R3: disks know nothing of each other.
func TestDisksAreApart(t *testing.T) {
	a, b := sector.New(2), sector.New(2)
	write(t, a, "0a")
	tells(t, b, true, 0, 0)
	reads(t, b, 0, 0)
	isErr(t, "Flush", a.Flush(), api.OK)
	lies(t, b, 0, 0)
	a.Arm(0)
	isErr(t, "Flush", a.Flush(), api.ErrPower)
	isErr(t, "Flush", b.Flush(), api.OK)
	tells(t, a, false, 2, 0)
	tells(t, b, true, 1, 0)
}

// R3: what was told stays as it was, whatever the disk does then.
func TestWhatIsToldStays(t *testing.T) {
	d := sector.New(1)
	write(t, d, "0a")
	cached, _ := d.Read(0)
	lay := d.Peek(0)
	write(t, d, "0b")
	isErr(t, "Flush", d.Flush(), api.OK)
	flushed := d.Peek(0)
	write(t, d, "0c")
	d.Crash(1)
	if cached != full('a') || lay != full(0) || flushed != full('b') {
		t.Errorf("told: %q, %q, %q", short(cached), short(lay), short(flushed))
	}
}

// R3: the bytes that a text was made of are its owner's.
func TestWhatWasWrittenStays(t *testing.T) {
	d := sector.New(1)
	b := []byte(full('a'))
	isErr(t, "Write", d.Write(0, string(b)), api.OK)
	b[0] = 'x'
	reads(t, d, 0, 'a')
	isErr(t, "Flush", d.Flush(), api.OK)
	b[0] = 'y'
	lies(t, d, 0, 'a')
}

// R1: a nil disk, at every call.
func TestNilDisk(t *testing.T) {
	var d *sector.Disk
	for range 2 {
		for _, at := range append(places(1), 0) {
			readsNot(t, d, at, api.ErrArg)
			isErr(t, "Write", d.Write(at, full('a')), api.ErrArg)
			isErr(t, "Write of nothing", d.Write(at, ""), api.ErrArg)
			if got := d.Peek(at); got != "" {
				t.Errorf("Peek(%d): %d bytes", at, len(got))
			}
		}
		isErr(t, "Flush", d.Flush(), api.ErrArg)
		if got := d.Sectors(); got != 0 {
			t.Errorf("Sectors: %d", got)
		}
		tells(t, d, false, 0, 0)
		d.Arm(1)
		tells(t, d, false, 0, 0)
		d.Crash()
		d.Crash(1, 0, -1)
		tells(t, d, false, 0, 0)
	}
}

// A zero disk has no sectors and no power, at every call, and a crash gives it none.
func TestZeroDisk(t *testing.T) {
	d := &sector.Disk{}
	for _, change := range []func(){
		func() {}, func() { d.Arm(3) }, func() { d.Arm(-1) }, func() { d.Crash() }, func() { d.Crash(1, 1) }, func() { d.Arm(1) },
	} {
		change()
		for _, at := range append(places(1), 0) {
			readsNot(t, d, at, api.ErrArg)
			isErr(t, "Write", d.Write(at, full('a')), api.ErrArg)
			isErr(t, "Write of nothing", d.Write(at, ""), api.ErrArg)
			if got := d.Peek(at); got != "" {
				t.Errorf("Peek(%d): %d bytes", at, len(got))
			}
		}
		isErr(t, "Flush", d.Flush(), api.ErrPower)
		if got := d.Sectors(); got != 0 {
			t.Errorf("Sectors: %d", got)
		}
		tells(t, d, false, 0, 0)
	}
}
