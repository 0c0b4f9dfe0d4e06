package store_test

import (
	"fmt"
	"math"
	"slices"
	"strings"
	"testing"

	"scrinium/api"
	"scrinium/sector"
	"scrinium/store"
)

// isRead fails if Read tells anything else.
func isRead(t *testing.T, s *store.Store, name string, from, n int, want string, wantErr api.Errno) {
	t.Helper()
	if got, err := s.Read(name, from, n); got != want || err != wantErr {
		t.Errorf("Read(%q, %d, %d): %.9q and so on, %d bytes, %d, want %.9q, %d", name, from, n, got, len(got), err, want, wantErr)
	}
}

// P8.3: from every number at the edges of sectors and of the file, as many as reach others.
func TestRead(t *testing.T) {
	for _, size := range []int{0, 1, 255, 256, 257, 600, 768, 1000} {
		data := bytes(size, size)
		_, s := made(t, 10)
		// The file's sectors lie apart, and go down.
		isErr(t, "Do", s.Do(begin("a"), begin("b"), begin("c"), add("b", bytes(300, 1))), api.OK)
		isErr(t, "Do", s.Do(add("a", data[:size/2]), add("c", bytes(300, 1))), api.OK)
		isErr(t, "Do", s.Do(trim("b", 0), add("a", data[size/2:])), api.OK)
		numbers := []int{0, 1, 2, 100, 254, 255, 256, 257, 258, 511, 512, 513, 767, 768, 769, size - 1, size, size + 1, 2000, 1 << 40, math.MaxInt - 1, math.MaxInt}
		for _, from := range numbers {
			for _, n := range numbers {
				if from < 0 || n < 0 {
					continue
				}
				want := data[min(from, size):]
				isRead(t, s, "a", from, n, want[:min(n, len(want))], api.OK)
			}
			for _, n := range []int{-1, -256, math.MinInt} {
				isRead(t, s, "a", from, n, "", api.ErrArg)
				isRead(t, s, "a", n, from, "", api.ErrArg)
				isRead(t, s, "a", n, n, "", api.ErrArg)
				isRead(t, s, "no", n, 1, "", api.ErrArg) // ErrNone is named behind it
				isRead(t, s, "no", 1, n, "", api.ErrArg)
			}
		}
	}
}

// P8.3: of files that there aren't, be their names any or none.
func TestToldOfNoFile(t *testing.T) {
	_, s := made(t, 10)
	isErr(t, "Do", s.Do(file("a", "xyz")...), api.OK)
	for _, name := range []string{"b", "", "A", "aa", "a\x00", "thirteenbytes", strings.Repeat("a", 1<<20)} {
		isRead(t, s, name, 0, 1, "", api.ErrNone)
		isRead(t, s, name, 0, 0, "", api.ErrNone)
		if n, err := s.Size(name); n != 0 || err != api.ErrNone {
			t.Errorf("Size(%.20q): %d, %d", name, n, err)
		}
	}
	isErr(t, "Do", s.Do(trim("a", 0), drop("a")), api.OK)
	isRead(t, s, "a", 0, 1, "", api.ErrNone)
}

// P8.3: by hand what is told behind each of some calls.
func TestToldBehindEach(t *testing.T) {
	_, s := made(t, 10)
	tells := func(what string, free int, files ...string) {
		t.Helper()
		var got []string
		for _, name := range s.Names() {
			n, err := s.Size(name)
			got = append(got, fmt.Sprint(name, " ", n))
			isErr(t, "Size", err, api.OK)
		}
		if !slices.Equal(got, files) || s.Room() != 10 || s.Free() != free || s.Lost() != 0 {
			t.Errorf("%s: %q, room %d, free %d, lost %d; want %q, 10, %d, 0", what, got, s.Room(), s.Free(), s.Lost(), files, free)
		}
	}
	do := func(ops ...api.FileOp) {
		t.Helper()
		isErr(t, "Do", s.Do(ops...), api.OK)
	}
	tells("new", 10)
	do(begin("b"))
	tells("Make", 10, "b 0")
	do(begin("a"), begin("c"), begin("-"), begin("0"), begin("."), begin("ab"))
	tells("more of them", 10, "- 0", ". 0", "0 0", "a 0", "ab 0", "b 0", "c 0")
	do(drop("-"), drop("0"), drop("."), drop("ab"))
	tells("Drop", 10, "a 0", "b 0", "c 0")
	do(add("b", "x"))
	tells("Append", 9, "a 0", "b 1", "c 0")
	do(add("b", bytes(255, 1)), add("a", bytes(257, 2)))
	tells("Append to both", 7, "a 257", "b 256", "c 0")
	do(add("b", "y"))
	tells("Append of a byte", 6, "a 257", "b 257", "c 0")
	isErr(t, "Append", s.Do(add("c", bytes(9, 1)), add("c", bytes(1600, 2))), api.ErrFull)
	tells("ErrFull", 6, "a 257", "b 257", "c 0")
	do(add("c", bytes(1536, 2)))
	tells("all is full", 0, "a 257", "b 257", "c 1536")
	do(trim("a", 256), trim("b", 1))
	tells("Trim", 2, "a 256", "b 1", "c 1536")
	do(set("c", "z"))
	tells("Set", 7, "a 256", "b 1", "c 1")
	do(set("c", ""), drop("c"))
	tells("all of one", 8, "a 256", "b 1")
}

// P8.3: Lost counts sectors of no file that have other bytes than 0, and only these.
func TestLost(t *testing.T) {
	d, s := made(t, 10)
	isErr(t, "Do", s.Do(file("a", bytes(1000, 1))...), api.OK)
	lost := 0
	for at := range d.Sectors() {
		was, err := d.Read(at)
		isErr(t, "Read", err, api.OK)
		isErr(t, "Write", d.Write(at, "x"+was[1:]), api.OK)
		if at >= 80 && was == sectorOf(0) {
			lost++
		}
		if s.Lost() != lost {
			t.Errorf("sector %d changed: Lost %d, want %d", at, s.Lost(), lost)
		}
	}
	if lost != 6 {
		t.Errorf("%d sectors were free", lost)
	}
	for at := 80; at < d.Sectors(); at++ {
		isErr(t, "Write", d.Write(at, sectorOf(0)[1:]+"x"), api.OK)
	}
	if s.Lost() != 6 || s.Free() != 6 {
		t.Errorf("a last byte: Lost %d, Free %d, want 6, 6", s.Lost(), s.Free())
	}
}

// R1, P1: of a nil store, and of a zero one.
func TestNilAndZeroStores(t *testing.T) {
	for _, c := range []struct {
		s    *store.Store
		want api.Errno
	}{{nil, api.ErrArg}, {&store.Store{}, api.ErrState}} {
		for range 2 {
			isErr(t, "Do of none", c.s.Do(), c.want)
			isErr(t, "Do", c.s.Do(begin("a")), c.want)
			isErr(t, "Do of no change", c.s.Do(begin(""), api.FileOp{}), c.want)
			for _, name := range []string{"a", "", "A"} {
				for _, n := range []int{math.MinInt, -1, 0, 1, math.MaxInt} {
					isRead(t, c.s, name, n, 1, "", c.want)
					isRead(t, c.s, name, 1, n, "", c.want)
				}
				if n, err := c.s.Size(name); n != 0 || err != c.want {
					t.Errorf("Size: %d, %d, want 0, %d", n, err, c.want)
				}
			}
			if len(c.s.Names()) != 0 || c.s.Free() != 0 || c.s.Room() != 0 || c.s.Lost() != 0 {
				t.Errorf("told: %q, %d, %d, %d", c.s.Names(), c.s.Free(), c.s.Room(), c.s.Lost())
			}
		}
	}
}

// isBroken fails if a change of a broken store is told anything else than ErrState, or if it tells other names and sizes than ahead of the call that broke it.
func isBroken(t *testing.T, what string, d *sector.Disk, s *store.Store, m model) {
	t.Helper()
	steps, cached := d.Steps(), d.Cached()
	for _, ops := range [][]api.FileOp{nil, {begin("n")}, {begin("A")}, {drop("nobody")}, {add("a", bytes(99999, 1))}, {add("a", "")}} {
		isErr(t, what, s.Do(ops...), api.ErrState)
	}
	if d.Steps() != steps || d.Cached() != cached {
		t.Errorf("%s: %d steps were done", what, d.Steps()-steps)
	}
	var names []string
	for _, name := range s.Names() {
		names = append(names, name)
		if n, err := s.Size(name); n != len(m.files[name]) || err != api.OK {
			t.Errorf("%s: Size(%s): %d, %d", what, name, n, err)
		}
	}
	if len(names) != len(m.files) || s.Free() != m.free() || s.Room() != m.room {
		t.Errorf("%s: names %q, free %d, room %d", what, names, s.Free(), s.Room())
	}
}

// P8.4: power goes behind each step of a change: then all changes tell ErrState, with and without power, till the store is opened anew; and reads tell what the disk does.
func TestBrokenStores(t *testing.T) {
	for what, ops := range map[string][]api.FileOp{
		"Make":   {begin("c")},
		"Append": {add("a", bytes(400, 3))},
		"Trim":   {trim("a", 5)},
		"Set":    {set("a", bytes(700, 4)), add("b", "x")},
		"Drop":   {trim("b", 0), drop("b")},
	} {
		err := api.ErrPower
		for steps := 0; err != api.OK; steps++ {
			d, s := made(t, 9)
			m := model{9, map[string]string{"a": bytes(500, 1), "b": bytes(100, 2)}}
			isErr(t, "Do", s.Do(slices.Concat(file("a", m.files["a"]), file("b", m.files["b"]))...), api.OK)
			d.Arm(steps)
			if err = s.Do(ops...); err == api.OK {
				if steps < 5 {
					t.Errorf("%s has %d steps", what, steps)
				}
				continue
			}
			isErr(t, what, err, api.ErrPower)
			isBroken(t, what+", without power", d, s, m)
			isRead(t, s, "a", 0, 1, "", api.ErrPower)
			isRead(t, s, "a", 0, 999, "", api.ErrPower)
			isRead(t, s, "a", -1, 1, "", api.ErrArg)
			isRead(t, s, "no", 0, 1, "", api.ErrNone)
			if s.Lost() != 0 {
				t.Errorf("%s: Lost %d without power", what, s.Lost())
			}
			d.Crash()
			isBroken(t, what+", with power again", d, s, m)
			if got, readErr := s.Read("a", 0, 999); len(got) != 500 || readErr != api.OK {
				t.Errorf("%s: Read with power again: %d bytes, %d", what, len(got), readErr)
			}
			again := open(t, d)
			isBroken(t, what+", and another one opened", d, s, m)
			next, _ := m.do(ops...)
			if next.differs(again) != "" {
				next = m
			}
			next.holds(t, what+", opened anew", d, again)
			isErr(t, "Do, opened anew", again.Do(set("a", "z")), api.OK)
		}
	}
}

// P8.4: reads that the disk tells an error break nothing; a change for which the disk doesn't tell what it needs does, as the disk may have lost more.
func TestWithoutPower(t *testing.T) {
	d, s := made(t, 9)
	isErr(t, "Do", s.Do(file("a", bytes(300, 1))...), api.OK)
	m := model{9, map[string]string{"a": bytes(300, 1)}}
	d.Crash()
	s = open(t, d)
	off := func() {
		d.Arm(0)
		isErr(t, "Flush", d.Flush(), api.ErrPower)
	}
	off()
	isRead(t, s, "a", 0, 300, "", api.ErrPower)
	isRead(t, s, "a", 299, 1, "", api.ErrPower)
	isRead(t, s, "a", 300, 1, "", api.OK) // no byte is asked for
	isRead(t, s, "a", 0, 0, "", api.OK)
	if s.Lost() != 0 || s.Free() != 7 {
		t.Errorf("without power: Lost %d, Free %d", s.Lost(), s.Free())
	}
	for want, op := range map[api.Errno]api.FileOp{
		api.ErrArg: begin("A"), api.ErrNone: drop("b"), api.ErrState: begin("a"), api.ErrFull: set("a", bytes(9999, 1)),
	} {
		isErr(t, "a wrong change behind a right one, without power", s.Do(add("a", "x"), op), want)
	}
	isErr(t, "no change, without power", s.Do(), api.OK)
	d.Crash()
	m.holds(t, "with power again", d, s)
	isErr(t, "Do", s.Do(add("a", "x")), api.OK)
	d.Crash()
	s = open(t, d)
	off()
	isErr(t, "Append, without power", s.Do(add("a", "y")), api.ErrPower)
	m.files["a"] += "x"
	isBroken(t, "Append, without power", d, s, m)
	d.Crash()
	isBroken(t, "with power again", d, s, m)
	m.holds(t, "opened anew", d, open(t, d))
}

// R4: the same calls have the same answers, and do the same steps.
func TestSameCallsSameSteps(t *testing.T) {
	var lies []string
	for range 20 {
		d, s := made(t, 60)
		var ops []api.FileOp
		for i := range 12 {
			ops = append(ops, file(fmt.Sprint("f", i), bytes(i*100, i))...)
		}
		isErr(t, "Do", s.Do(ops...), api.OK)
		ops = nil
		for i := range 12 {
			ops = append(ops, set(fmt.Sprint("f", 11-i), bytes(i*60, i)))
		}
		isErr(t, "Do", s.Do(ops...), api.OK)
		picks := make([]int, d.Cached())
		for i := range picks {
			picks[i] = i % 3
		}
		steps := d.Steps()
		d.Crash(picks...)
		lies = append(lies, fmt.Sprint(steps)+lying(d))
	}
	if len(slices.Compact(lies)) != 1 {
		t.Error("the same calls left other bytes")
	}
}

// Stores on disks of their own share nothing.
func TestStoresShareNothing(t *testing.T) {
	a, b := pairOf(t, 9, file("x", "ab")), pairOf(t, 9, file("x", "cd"))
	a.do(t, "one", api.OK, add("x", "e"), begin("y"))
	b.m.holds(t, "the other one", b.d, b.s)
}
