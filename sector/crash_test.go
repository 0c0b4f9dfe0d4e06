package sector_test

import (
	"math"
	"math/rand"
	"slices"
	"strconv"
	"strings"
	"testing"

	"scrinium/api"
	"scrinium/sector"
)

// layOf is the first byte of what lies in each sector.
func layOf(d *sector.Disk) string {
	var b strings.Builder
	for at := range d.Sectors() {
		b.WriteString(d.Peek(at)[:1])
	}
	return b.String()
}

// P5.4: picks that are odd and even, below 0, missing and too many.
func TestPicks(t *testing.T) {
	for _, c := range []struct {
		picks []int
		want  string // of "pqr", with "0a1b0c2d" written over it
	}{
		{nil, "pqr"},
		{[]int{}, "pqr"},
		{[]int{0}, "pqr"},
		{[]int{1}, "aqr"},
		{[]int{0, 1}, "pbr"},
		{[]int{1, 1}, "abr"},
		{[]int{0, 0, 1}, "cqr"},
		{[]int{1, 0, 1}, "cqr"},
		{[]int{1, 1, 0, 1}, "abd"},
		{[]int{1, 1, 1, 1}, "cbd"},
		{[]int{0, 0, 0, 1}, "pqd"},
		{[]int{0, 0, 0, 0}, "pqr"},
		{[]int{0, 0, 0, 0, 1}, "pqr"},
		{[]int{0, 0, 0, 1, 1, 1, 1, 1}, "pqd"},
		{[]int{2, 4, 6, 8}, "pqr"},
		{[]int{3, 2, 4, 7}, "aqd"},
		{[]int{-1}, "aqr"},
		{[]int{-2, -3, -4, -5}, "pbd"},
		{[]int{-2, -4, -6, -8}, "pqr"},
		{[]int{math.MaxInt, math.MinInt, math.MinInt + 1, math.MaxInt - 1}, "cqr"},
	} {
		d := sector.New(3)
		write(t, d, "0p1q2r")
		isErr(t, "Flush", d.Flush(), api.OK)
		write(t, d, "0a1b0c2d")
		handed := slices.Clone(c.picks)
		d.Crash(handed...)
		if got := layOf(d); got != c.want {
			t.Errorf("Crash(%v): %q, want %q", c.picks, got, c.want)
		}
		tells(t, d, true, 8, 0)
		for at := range 3 {
			reads(t, d, at, c.want[at])
		}
		if !slices.Equal(handed, c.picks) { // R3
			t.Errorf("Crash(%v) changed its picks: %v", c.picks, handed)
		}
	}
}

// P5.4: a crash with nothing in the cache, and one behind another.
func TestCrashOfNothing(t *testing.T) {
	d := sector.New(2)
	for range 3 {
		d.Crash()
		d.Crash(1, 1, 1)
		tells(t, d, true, 0, 0)
		if got := layOf(d); got != "\x00\x00" {
			t.Fatalf("bytes 0 are others: %q", got)
		}
	}
	write(t, d, "0a1b")
	d.Crash(1)
	d.Crash(1, 1) // what was lost is lost
	if got := layOf(d); got != "a\x00" {
		t.Errorf("behind two crashes: %q", got)
	}
	tells(t, d, true, 2, 0)
}

// P5.4: picks count from the cache's first write on, which is the first one behind the last Flush, or crash.
func TestPicksCountFromTheCache(t *testing.T) {
	d := sector.New(3)
	write(t, d, "0a1b")
	isErr(t, "Flush", d.Flush(), api.OK)
	write(t, d, "2c0d")
	d.Crash(1)
	if got := layOf(d); got != "abc" {
		t.Fatalf("behind a Flush: %q", got)
	}
	write(t, d, "1e2f")
	d.Crash(0, 1)
	if got := layOf(d); got != "abf" {
		t.Fatalf("behind a crash: %q", got)
	}
}

// P5.4: several writes of one sector: of those that are picked the last one lies there.
func TestCrashOfOneSector(t *testing.T) {
	for picks := range 1 << 5 {
		d := sector.New(1)
		write(t, d, "0a0b0c0d0e")
		var l []int
		want := byte(0)
		for i := range 5 {
			l = append(l, picks>>i&1)
			if picks>>i&1 == 1 {
				want = "abcde"[i]
			}
		}
		reads(t, d, 0, 'e')
		d.Crash(l...)
		lies(t, d, 0, want)
		reads(t, d, 0, want)
		tells(t, d, true, 5, 0)
	}
}

// P5.4: Peek tells what a crash without picks leaves, with or without power.
func TestPeekIsWhatIsLeft(t *testing.T) {
	d := sector.New(2)
	write(t, d, "0a")
	isErr(t, "Flush", d.Flush(), api.OK)
	write(t, d, "0b1c")
	d.Arm(0)
	isErr(t, "Flush", d.Flush(), api.ErrPower)
	lies(t, d, 0, 'a')
	lies(t, d, 1, 0)
	for _, at := range places(2) {
		if got := d.Peek(at); got != "" {
			t.Errorf("Peek(%d): %d bytes", at, len(got))
		}
	}
	tells(t, d, false, 4, 2)
	d.Crash()
	lies(t, d, 0, 'a')
	lies(t, d, 1, 0)
	tells(t, d, true, 4, 0)
}

// P5.4, P5.3: the writes that were told OK ahead of the loss of power can be picked, the one that took it can't.
func TestCrashBehindLossOfPower(t *testing.T) {
	d := sector.New(3)
	d.Arm(2)
	write(t, d, "0a1b")
	isErr(t, "Write", d.Write(2, full('c')), api.ErrPower)
	isErr(t, "Write", d.Write(0, full('d')), api.ErrPower)
	tells(t, d, false, 2, 2)
	d.Crash(1, 1, 1, 1)
	if got := layOf(d); got != "ab\x00" {
		t.Errorf("behind the crash: %q", got)
	}
	tells(t, d, true, 2, 0)
}

// R3: picks may be changed behind the call.
func TestPicksAreTheirOwners(t *testing.T) {
	d := sector.New(1)
	picks := []int{0, 0}
	write(t, d, "0a")
	d.Crash(picks...)
	picks[0] = 1
	write(t, d, "0b")
	lies(t, d, 0, 0)
	d.Crash()
	lies(t, d, 0, 0)
}

// P5.5: what was flushed lies there till another write of that sector does, whatever happens to others.
func TestWhatWasFlushedStays(t *testing.T) {
	d := sector.New(4)
	write(t, d, "2a")
	isErr(t, "Flush", d.Flush(), api.OK)
	for range 50 {
		write(t, d, "0x1y3z2w")
		lies(t, d, 2, 'a')
		d.Crash(1, 1, 1, 0)
		lies(t, d, 2, 'a')
		write(t, d, "0p1q3r")
		isErr(t, "Flush", d.Flush(), api.OK)
		reads(t, d, 2, 'a')
	}
	write(t, d, "2b")
	d.Crash(1)
	lies(t, d, 2, 'b')
}

// P5.5: all scripts of up to 5 writes of 2 sectors, and all picks: each sector is as it lay, or as one of its writes.
func TestCrashLeavesOneOfItsWrites(t *testing.T) {
	for n := range 6 {
		for places := range 1 << n {
			for picks := range 1 << n {
				d := sector.New(2)
				write(t, d, "0p1q")
				isErr(t, "Flush", d.Flush(), api.OK)
				may := []string{"p", "q"}
				var l []int
				for i := range n {
					at := places >> i & 1
					isErr(t, "Write", d.Write(at, full(byte('a'+i))), api.OK)
					may[at] += string(rune('a' + i))
					l = append(l, picks>>i&1)
				}
				d.Crash(l...)
				for at := range 2 {
					if got := d.Peek(at); got != full(got[0]) || !strings.Contains(may[at], got[:1]) {
						t.Fatalf("sector %d is %q, none of %q", at, short(got), may[at])
					}
				}
			}
		}
	}
}

// plain is a disk in the chapter's own words, as far as a test of few writes can afford them.
type plain struct {
	lies   []byte
	cache  [][2]int
	on     bool
	armed  int // below 0: it isn't
	steps  int
	powers int
}

func (p *plain) step() api.Errno {
	if p.on && p.armed == 0 {
		p.on = false
		p.powers++
	}
	if !p.on {
		return api.ErrPower
	}
	p.armed = max(p.armed-1, -1)
	p.steps++
	return api.OK
}

func (p *plain) write(at int, c byte) api.Errno {
	if at < 0 || at >= len(p.lies) {
		return api.ErrArg
	}
	err := p.step()
	if err == api.OK {
		p.cache = append(p.cache, [2]int{at, int(c)})
	}
	return err
}

func (p *plain) flush() api.Errno {
	err := p.step()
	if err == api.OK {
		for _, w := range p.cache {
			p.lies[w[0]] = byte(w[1])
		}
		p.cache = nil
	}
	return err
}

func (p *plain) crash(picks []int) {
	for i, pick := range picks[:min(len(picks), len(p.cache))] {
		if pick&1 == 1 {
			p.lies[p.cache[i][0]] = byte(p.cache[i][1])
		}
	}
	p.cache, p.on, p.armed = nil, true, -1
}

func (p *plain) read(at int) byte {
	c := p.lies[at]
	for _, w := range p.cache {
		if w[0] == at {
			c = byte(w[1])
		}
	}
	return c
}

// isLike fails if a disk tells otherwise than the plain one.
func (p *plain) isLike(t *testing.T, what string, d *sector.Disk) {
	t.Helper()
	if d.On() != p.on || d.Steps() != p.steps || d.Cached() != len(p.cache) || layOf(d) != string(p.lies) {
		t.Fatalf("%s: %v, %d, %d, %q, want %v, %d, %d, %q", what, d.On(), d.Steps(), d.Cached(), layOf(d), p.on, p.steps, len(p.cache), p.lies)
	}
	for at := range p.lies {
		if p.on {
			reads(t, d, at, p.read(at))
		} else {
			readsNot(t, d, at, api.ErrPower)
		}
	}
}

// P5.2 to P5.5, P1, R4: a script, done by a disk, by a second one and by the plain one.
func follow(t *testing.T, script []byte) *plain {
	const sectors = 3
	p := &plain{lies: make([]byte, sectors), on: true, armed: -1}
	one, two := sector.New(sectors), sector.New(sectors)
	for i, x := range script {
		what := strconv.Itoa(i) + " of " + strconv.Quote(string(script))
		more := int(x >> 3)
		switch x & 7 {
		case 0, 1, 2, 3:
			at, c := more%(sectors+2)-1, byte('a'+i%26)
			want := p.write(at, c)
			isErr(t, what, one.Write(at, full(c)), want)
			isErr(t, what, two.Write(at, full(c)), want)
		case 4:
			want := p.flush()
			isErr(t, what, one.Flush(), want)
			isErr(t, what, two.Flush(), want)
		case 5:
			if p.on {
				p.armed = max(more%12-2, 0)
			}
			one.Arm(more%12 - 2)
			two.Arm(more%12 - 2)
		default:
			var picks []int
			for j := range more % 8 {
				picks = append(picks, (int(x)>>(j%8)+i*j)*(1-2*(j%2)))
			}
			p.crash(picks)
			one.Crash(picks...)
			two.Crash(picks...)
		}
		p.isLike(t, what, one)
		p.isLike(t, what, two)
	}
	return p
}

// P5.2 to P5.5: many scripts, the same ones each time.
func TestScripts(t *testing.T) {
	r := rand.New(rand.NewSource(5))
	steps, powers := 0, 0
	for range 3000 {
		script := make([]byte, r.Intn(60))
		r.Read(script)
		p := follow(t, script)
		steps += p.steps
		powers += p.powers
	}
	if steps < 10000 || powers < 500 {
		t.Errorf("the scripts do too little: %d steps, %d losses of power", steps, powers)
	}
}

func FuzzScripts(f *testing.F) {
	f.Add([]byte("0123"))
	f.Add([]byte("\x08\x08\x04\x25\x10\x10\x3e\x10\x04"))
	f.Fuzz(func(t *testing.T, script []byte) { follow(t, script[:min(len(script), 500)]) })
}

// P5.2 to P5.4: a disk of the greatest size, all of whose sectors are written, some of them twice.
func TestGreatDisk(t *testing.T) {
	d := sector.New(api.MaxSectors)
	for at := range api.MaxSectors {
		isErr(t, "Write", d.Write(at, full(byte(at%251))), api.OK)
	}
	tells(t, d, true, api.MaxSectors, api.MaxSectors)
	isErr(t, "Flush", d.Flush(), api.OK)
	var picks []int
	for at := range api.MaxSectors {
		isErr(t, "Write", d.Write(at, full(255)), api.OK)
		picks = append(picks, at)
	}
	d.Crash(picks...)
	for at := range api.MaxSectors {
		if at%2 == 1 {
			lies(t, d, at, 255)
		} else {
			lies(t, d, at, byte(at%251))
		}
	}
}
