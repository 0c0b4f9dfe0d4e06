package store_test

import (
	"fmt"
	"slices"
	"strings"
	"testing"

	"scrinium/api"
	"scrinium/redo"
	"scrinium/sector"
	"scrinium/store"
)

// The chapter's examples.
func TestExamples(t *testing.T) {
	_, s := made(t, 10)
	isErr(t, "Make a, Append a xy", s.Do(begin("a"), add("a", "xy")), api.OK)
	got, err := s.Read("a", 0, 9)
	n, sizeErr := s.Size("a")
	if got != "xy" || err != api.OK || n != 2 || sizeErr != api.OK {
		t.Errorf("Read, Size: %q, %d, %d, %d", got, err, n, sizeErr)
	}
	isErr(t, "Make b, Make b", s.Do(begin("b"), begin("b")), api.ErrState)
	if got := s.Names(); !slices.Equal(got, []string{"a"}) {
		t.Errorf("Names: %q", got)
	}
	isErr(t, "Trim a 0, Drop a", s.Do(trim("a", 0), drop("a")), api.OK)
	if got := s.Names(); len(got) != 0 || s.Lost() != 0 {
		t.Errorf("Names, Lost: %q, %d", got, s.Lost())
	}
}

// P8.1
func TestName(t *testing.T) {
	is := func(s string, want bool) {
		t.Helper()
		if store.Name(s) != want {
			t.Errorf("Name(%q): %v", s, !want)
		}
	}
	is("", false)
	for n := 1; n <= 12; n++ {
		is(strings.Repeat("a", n), true)
	}
	for _, n := range []int{13, 14, 256, 1 << 20} {
		is(strings.Repeat("a", n), false)
	}
	right := "abcdefghijklmnopqrstuvwxyz0123456789.-"
	for c := range 256 {
		s := string([]byte{byte(c)})
		want := strings.Contains(right, s)
		for _, name := range []string{s, s + "a", "a" + s, "a" + s + "b", strings.Repeat("z", 11) + s} {
			is(name, want)
		}
	}
	for _, name := range []string{"l00", "meta", ".", "-", "..", "a.b-c.9", "0123456789.-"} {
		is(name, true)
	}
	for _, name := range []string{"é", "aé", "a b", " a", "a ", "a\x00", "A", "a/b", "a_b", "ａ", "a\xff", "0123456789.-a"} {
		is(name, false)
	}
}

// P8.1: the sizes that a disk may have, and those next to them.
func TestSizesOfDisks(t *testing.T) {
	for _, n := range []int{1, 2, 16, 63, 64, 65, 79, 80, 581, 582, 1000, 65536} {
		d := sector.New(n)
		isErr(t, fmt.Sprint("Format of ", n), store.Format(d), api.ErrArg)
		s, err := store.Open(d)
		if s != nil || err != api.ErrArg {
			t.Errorf("Open of %d: %v, %d", n, s != nil, err)
		}
		if d.Steps() != 0 {
			t.Errorf("of %d: %d steps were done", n, d.Steps())
		}
	}
	for _, n := range []int{81, 82, 300, 579, 580} {
		d, s := made(t, n-80)
		model{n - 80, nil}.holds(t, fmt.Sprint("of ", n), d, s)
		isErr(t, "Do", s.Do(begin("a"), add("a", "x")), api.OK)
		model{n - 80, map[string]string{"a": "x"}}.holds(t, fmt.Sprint("of ", n), d, s)
	}
	for what, d := range map[string]*sector.Disk{"nil": nil, "zero": {}} {
		isErr(t, "Format of a disk that is "+what, store.Format(d), api.ErrArg)
		s, err := store.Open(d)
		if s != nil || err != api.ErrArg {
			t.Errorf("Open of a disk that is %s: %v, %d", what, s != nil, err)
		}
	}
}

// noStore fails if Open tells a store, or another error.
func noStore(t *testing.T, what string, d *sector.Disk, want api.Errno) {
	t.Helper()
	s, err := store.Open(d)
	if s != nil || err != want {
		t.Errorf("%s: Open: %v, %d, want nil, %d", what, s != nil, err, want)
	}
}

// put writes a sector, and flushes it.
func put(t *testing.T, d *sector.Disk, at int, s string) {
	t.Helper()
	isErr(t, "Write", d.Write(at, s), api.OK)
	isErr(t, "Flush", d.Flush(), api.OK)
}

// P8.1: where nothing was made, or not all of it.
func TestOpenOfWhatWasNotMade(t *testing.T) {
	d := sector.New(90)
	noStore(t, "bytes 0", d, api.ErrForm)
	isErr(t, "a journal alone", redo.Format(d, 0, 64), api.OK)
	noStore(t, "a journal alone", d, api.ErrForm)

	d, _ = made(t, 10)
	put(t, d, 0, sectorOf('x'))
	noStore(t, "no journal", d, api.ErrForm)

	d, _ = made(t, 10)
	put(t, d, 64, sectorOf(0))
	noStore(t, "no directory", d, api.ErrForm)

	for at := 64; at < 80; at++ {
		d, s := made(t, 10)
		isErr(t, "Do", s.Do(file("a", bytes(300, 1))...), api.OK)
		isErr(t, "a journal that does nothing again", redo.Format(d, 0, 64), api.OK)
		put(t, d, at, sectorOf(0xfe))
		noStore(t, fmt.Sprint("other bytes in sector ", at), d, api.ErrForm)
	}
}

// P8.1: a store that is made over another one has nothing of that one, whatever its journal has still.
func TestFormatOverAnElderOne(t *testing.T) {
	d, s := made(t, 20)
	isErr(t, "Do", s.Do(slices.Concat(file("a", bytes(700, 1)), file("b", bytes(900, 2)))...), api.OK)
	isErr(t, "Do", s.Do(trim("a", 20), set("b", bytes(9, 3))), api.OK)
	for at := 80; at < 100; at++ {
		isErr(t, "Write", d.Write(at, sectorOf('z')), api.OK)
	}
	isErr(t, "Format", store.Format(d), api.OK)
	d.Crash()
	for range 2 {
		model{20, nil}.holds(t, "made over another one", d, open(t, d))
		d.Crash()
	}
}

// lying is what lies on a disk.
func lying(d *sector.Disk) string {
	var b strings.Builder
	for at := range d.Sectors() {
		b.WriteString(d.Peek(at))
	}
	return b.String()
}

// diskOf is a disk on which these bytes lie.
func diskOf(t *testing.T, lies string) *sector.Disk {
	t.Helper()
	d := sector.New(len(lies) / 256)
	for at := range d.Sectors() {
		isErr(t, "Write", d.Write(at, lies[at*256:(at+1)*256]), api.OK)
	}
	isErr(t, "Flush", d.Flush(), api.OK)
	return d
}

// P8.1, R2: power goes behind each step of Format and of Open. What Format began is no store, or a new one; what Open began can be opened.
func TestPowerWhileMade(t *testing.T) {
	d, s := made(t, 5)
	isErr(t, "Do", s.Do(file("a", bytes(700, 1))...), api.OK)
	old := lying(d) // with the transaction in its journal alone
	m := model{5, map[string]string{"a": bytes(700, 1)}}
	for _, lies := range []string{old, lying(sector.New(85))} {
		for steps := 0; ; steps++ {
			d := diskOf(t, lies)
			d.Arm(steps)
			err := store.Format(d)
			if err == api.OK {
				break
			}
			isErr(t, "Format", err, api.ErrPower)
			isErr(t, "Format without power", store.Format(d), api.ErrPower)
			noStore(t, "without power", d, api.ErrPower)
		}
	}
	steps := 0
	for ; ; steps++ {
		d := diskOf(t, old)
		d.Arm(steps)
		s, err := store.Open(d)
		if err == api.OK {
			m.holds(t, "opened", d, s)
			break
		}
		if s != nil {
			t.Error("Open tells a store beside its error")
		}
		isErr(t, "Open", err, api.ErrPower)
		d.Crash()
		m.holds(t, "opened behind Open", d, open(t, d))
	}
	if steps < 5 {
		t.Errorf("Open did %d steps alone", steps)
	}
}

// P8.1: behind a crash of Format there is no store, or a new one, but where nothing of it is left: an elder one's bytes are never told as a new one's files.
func TestCrashesOfFormat(t *testing.T) {
	d, s := made(t, 3)
	isErr(t, "Do", s.Do(file("a", bytes(500, 1))...), api.OK)
	isErr(t, "Do", s.Do(file("b", bytes(200, 2))...), api.OK)
	old := lying(d)
	err := api.ErrPower
	for steps := 0; err != api.OK; steps++ {
		for _, lies := range leftBehind(func() *sector.Disk {
			d := diskOf(t, old)
			d.Arm(steps)
			err = store.Format(d)
			return d
		}) {
			d := diskOf(t, lies)
			s, openErr := store.Open(d)
			switch {
			case lies == old:
				isErr(t, "Open of the elder one", openErr, api.OK)
			case openErr == api.OK:
				model{3, nil}.holds(t, fmt.Sprint("behind ", steps, " steps"), d, s)
			default:
				isErr(t, "Open", openErr, api.ErrForm)
			}
			if err == api.OK {
				isErr(t, "Open behind all of Format", openErr, api.OK)
			}
			isErr(t, "Format again", store.Format(d), api.OK)
			model{3, nil}.holds(t, "made again", d, open(t, d))
		}
	}
}
