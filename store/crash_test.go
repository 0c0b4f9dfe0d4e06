package store_test

import (
	"fmt"
	"math/rand"
	"slices"
	"strings"
	"testing"

	"scrinium/api"
	"scrinium/redo"
	"scrinium/sector"
	"scrinium/store"
)

// choices are what crashes may leave of so many writes: of a few, all there are; of more, none, all, each one alone, all but each one, all up to each one, and some by chance that is the same each time.
func choices(n int) (all [][]int) {
	picked := func(is func(i int) bool) {
		picks := make([]int, n)
		for i := range picks {
			if is(i) {
				picks[i] = 1
			}
		}
		all = append(all, picks)
	}
	if n <= 5 {
		for set := range 1 << n {
			picked(func(i int) bool { return set>>i&1 == 1 })
		}
		return all
	}
	r := rand.New(rand.NewSource(int64(n)))
	for k := range n + 1 {
		picked(func(i int) bool { return i < k })
		picked(func(i int) bool { return i == k })
		picked(func(i int) bool { return i != k })
		picked(func(i int) bool { return r.Intn(2) == 0 })
	}
	return all
}

// leftBehind is what may lie on a disk behind a crash of what was run on it.
func leftBehind(run func() *sector.Disk) (all []string) {
	seen := map[string]bool{}
	for _, picks := range choices(run().Cached()) {
		d := run()
		d.Crash(picks...)
		if lies := lying(d); !seen[lies] {
			seen[lies] = true
			all = append(all, lies)
		}
	}
	return all
}

// opened is what may lie on a disk behind crashes of Open, and of Open behind these, till no other ones come, with all that was there ahead of them.
func opened(t *testing.T, all []string) []string {
	t.Helper()
	seen := map[string]bool{}
	for _, lies := range all {
		seen[lies] = true
	}
	for i := 0; i < len(all); i++ {
		err := api.ErrPower
		for steps := 0; err != api.OK; steps++ {
			left := leftBehind(func() *sector.Disk {
				d := diskOf(t, all[i])
				d.Arm(steps)
				if _, err = store.Open(d); err != api.OK {
					isErr(t, "Open", err, api.ErrPower)
				}
				return d
			})
			for _, lies := range left {
				if !seen[lies] {
					seen[lies] = true
					all = append(all, lies)
				}
			}
		}
	}
	return all
}

// isOneOf fails if a store that is opened of what lies on a disk is none of these models; told is which one it is.
func isOneOf(t *testing.T, what, lies string, models ...model) model {
	t.Helper()
	d := diskOf(t, lies)
	s := open(t, d)
	var wrong []string
	for _, m := range models {
		a, b := m.differs(s), m.lies(d)
		if a == "" && b == "" {
			p := pair{d, s, m}
			p.do(t, what+", gone on", api.OK, others(m)...)
			return m
		}
		wrong = append(wrong, a+"; "+b)
	}
	t.Fatalf("%s: opened again: %s", what, strings.Join(wrong, ", and "))
	return model{}
}

// others are changes by which another file comes in all files' place.
func others(m model) (ops []api.FileOp) {
	for name := range m.files {
		ops = append(ops, trim(name, 0), drop(name))
	}
	return append(ops, file("z", bytes(260, 99))...)
}

// P8.4, P8.5: calls one behind the other, with a crash behind each step of each one, and of Open behind it.
func TestEveryCrash(t *testing.T) {
	calls := [][]api.FileOp{
		{begin("a"), add("a", bytes(300, 1))},
		{begin("b"), add("b", "x"), trim("a", 10)},
		{set("a", bytes(300, 2)), set("b", bytes(256, 3))},
		{trim("a", 256), add("b", bytes(257, 4))},
		{trim("b", 0), drop("b"), add("a", bytes(300, 5)), begin("c")},
		{set("a", ""), drop("c"), begin("b"), set("b", bytes(3, 6))},
	}
	d, _ := made(t, 4)
	m := model{4, map[string]string{}}
	for i, ops := range calls {
		next, err := m.do(ops...)
		isErr(t, "the model", err, api.OK)
		m, d = crashesOf(t, fmt.Sprint("call ", i), d, m, next, ops), diskOf(t, lying(d))
		s := open(t, d)
		isErr(t, "Do", s.Do(ops...), api.OK)
		d.Crash()
		m.holds(t, fmt.Sprint("call ", i), d, open(t, d))
	}
}

// crashesOf makes a call on a store that is next to be opened, with a crash behind each step of both.
func crashesOf(t *testing.T, what string, d *sector.Disk, was, now model, ops []api.FileOp) model {
	t.Helper()
	ahead, err := lying(d), api.ErrPower
	before, behind := 0, 0
	for steps := 0; err != api.OK; steps++ {
		var openErr api.Errno
		all := leftBehind(func() *sector.Disk {
			d := diskOf(t, ahead)
			d.Arm(steps)
			s, e := store.Open(d)
			if err, openErr = e, e; e == api.OK {
				err = s.Do(ops...)
			}
			return d
		})
		for _, lies := range opened(t, all) {
			at := fmt.Sprint(what, " behind ", steps, " steps")
			switch {
			case openErr != api.OK:
				isOneOf(t, at, lies, was)
			case err == api.OK:
				isOneOf(t, at, lies, now)
			default:
				if isOneOf(t, at, lies, was, now).differsFrom(was) {
					behind++
				} else {
					before++
				}
			}
		}
	}
	if before == 0 || behind == 0 {
		t.Errorf("%s: under way %d times nothing was done, %d times all", what, before, behind)
	}
	return now
}

// differsFrom tells whether two models have other files.
func (m model) differsFrom(o model) bool { return fmt.Sprint(m.files) != fmt.Sprint(o.files) }

// P8.1, P8.2: the journal lies in the disk's first 64 sectors, round all of which it goes; each call is one transaction there, that writes none of them.
func TestJournal(t *testing.T) {
	d, s := made(t, 60)
	isErr(t, "Do", s.Do(file("a", "x")...), api.OK)
	for i := range 80 {
		isErr(t, "Do", s.Do(set("a", bytes(i*100, i)), begin("b"), add("b", bytes(700, i))), api.OK)
		isErr(t, "Do", s.Do(trim("b", 0), drop("b")), api.OK)
		var region []string
		for at := range 64 {
			line, err := d.Read(at)
			isErr(t, "Read", err, api.OK)
			region = append(region, line)
		}
		_, seq, all, is := redo.Scan(region)
		if !is || len(all) == 0 || seq != 2*i+4 {
			t.Fatalf("behind call %d: a journal: %v, %d transactions, seq %d", i, is, len(all), seq)
		}
		for _, put := range all[len(all)-1] {
			lies, err := d.Read(put.At)
			if put.At < 64 || lies != put.S || err != api.OK {
				t.Errorf("behind call %d: sector %d: %d", i, put.At, err)
			}
		}
	}
}

// source is where a script takes its numbers from: one below n.
type source func(n int) int

// changeOf is a change that a script makes: most often one that can be.
func changeOf(pick source, m model) api.FileOp {
	names := []string{"a", "b", "c", "meta", "l00", "twelve-bytes", "l01", "p01"}
	name := names[pick(len(names))]
	size := len(m.files[name])
	op := api.FileOp{Kind: 1 + pick(5), Name: name}
	_, is := m.files[name]
	switch {
	case pick(8) == 0:
	case !is:
		op.Kind = api.FileMake
	case op.Kind == api.FileMake:
		op.Kind = api.FileAppend
	case op.Kind == api.FileDrop && size > 0:
		op.Kind = api.FileSet
	}
	n := []int{0, 1, 255, 256, 257, 1024, pick(300), pick(3000), pick(11000)}[pick(9)]
	switch op.Kind {
	case api.FileAppend, api.FileSet:
		op.Data = bytes(n, pick(250))
	case api.FileTrim:
		op.N = []int{0, size, max(size-1, 0), size / 2, size / 256 * 256, max(size-n, 0), pick(300)}[pick(7)]
	}
	switch pick(80) {
	case 0:
		op.Kind = []int{0, 6, -1, 1 << 62}[pick(4)]
	case 1:
		op.Name = []string{"", "A", "thirteenbytes", "a b", "z"}[pick(5)]
	case 2:
		op.N = []int{-1, size + 1, -1 << 63, 1<<63 - 1}[pick(4)]
	}
	return op
}

// callOf is the changes of a call of a script.
func callOf(pick source, m model) (ops []api.FileOp) {
	for range []int{1, 1, 2, 3, 5}[pick(5)] {
		op := changeOf(pick, m)
		ops = append(ops, op)
		if next, err := m.do(op); err == api.OK {
			m = next
		}
	}
	return ops
}

// reopen crashes the disk and opens the store, crashing again as the script has it, till power holds.
func reopen(t *testing.T, d *sector.Disk, pick source) *store.Store {
	t.Helper()
	for tries := 0; ; tries++ {
		picks := make([]int, d.Cached())
		for i := range picks {
			picks[i] = pick(2)
		}
		d.Crash(picks...)
		if tries < 4 && pick(2) == 1 {
			d.Arm(pick(40))
		}
		s, err := store.Open(d)
		if err == api.OK {
			return s
		}
		isErr(t, "Open", err, api.ErrPower)
	}
}

// checkScript makes calls as a script has them, with crashes among them, and holds the store against the model behind each; told is how often each error was.
func checkScript(t *testing.T, calls int, pick source) (told map[api.Errno]int) {
	t.Helper()
	room := []int{1, 2, 5, 20, 41, 60, 100, 500}[pick(8)]
	d, s := made(t, room)
	m := model{room, map[string]string{}}
	told = map[api.Errno]int{}
	for i := range calls {
		ops := callOf(pick, m)
		next, want := m.do(ops...)
		if pick(3) == 0 {
			d.Arm(pick(60))
		}
		err := s.Do(ops...)
		told[err]++
		switch {
		case err == want:
			m = next
		case want != api.OK || err != api.ErrPower:
			t.Fatalf("call %d: %v: %d, want %d", i, ops, err, want)
		}
		if err == api.ErrPower || pick(5) == 0 {
			s = reopen(t, d, pick)
			if err == api.ErrPower && next.differs(s) == "" {
				m = next
			}
		}
		d.Arm(1 << 40)
		if wrong := m.differs(s) + m.lies(d); wrong != "" {
			t.Fatalf("call %d: %d: %s", i, err, wrong)
		}
	}
	return told
}

// P8.2 to P8.5: long scripts on disks of some sizes, by chance that is the same each time.
func TestScripts(t *testing.T) {
	told := map[api.Errno]int{}
	for seed := range 120 {
		for err, n := range checkScript(t, 60, rand.New(rand.NewSource(int64(seed))).Intn) {
			told[err] += n
		}
	}
	t.Log(told)
	for _, err := range []api.Errno{api.OK, api.ErrArg, api.ErrSize, api.ErrNone, api.ErrState, api.ErrPower, api.ErrFull} {
		if told[err] < 20 {
			t.Errorf("error %d was told %d times alone", err, told[err])
		}
	}
}

func FuzzScripts(f *testing.F) {
	f.Add([]byte("0123456789"))
	f.Add([]byte(strings.Repeat("a crash, and another one; ", 20)))
	f.Fuzz(func(t *testing.T, b []byte) {
		b = slices.Clone(b)
		checkScript(t, min(len(b)/8, 40), func(n int) int {
			if len(b) == 0 {
				return 0
			}
			c := int(b[0])
			b = b[1:]
			if n > 256 && len(b) > 0 {
				c = c<<8 | int(b[0])
				b = b[1:]
			}
			return c % n
		})
	})
}
