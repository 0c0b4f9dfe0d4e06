package store_test

import (
	"fmt"
	"maps"
	"math/rand"
	"slices"
	"strings"
	"testing"

	"scrinium/api"
	"scrinium/sector"
	"scrinium/store"
)

func isErr(t *testing.T, what string, got, want api.Errno) {
	t.Helper()
	if got != want {
		t.Errorf("%s: %d, want %d", what, got, want)
	}
}

// Changes, in short.
func begin(name string) api.FileOp { return api.FileOp{Kind: api.FileMake, Name: name} }
func add(name, data string) api.FileOp {
	return api.FileOp{Kind: api.FileAppend, Name: name, Data: data}
}
func trim(name string, n int) api.FileOp { return api.FileOp{Kind: api.FileTrim, Name: name, N: n} }
func drop(name string) api.FileOp        { return api.FileOp{Kind: api.FileDrop, Name: name} }
func set(name, data string) api.FileOp   { return api.FileOp{Kind: api.FileSet, Name: name, Data: data} }

// file is the changes that lead to a new file with some bytes.
func file(name, data string) []api.FileOp { return []api.FileOp{begin(name), add(name, data)} }

// bytes are n bytes, none of them 0, of which each sector is unlike those of another seed.
func bytes(n, seed int) string {
	r := rand.New(rand.NewSource(int64(seed)))
	b := make([]byte, n)
	for i := range b {
		b[i] = byte(1 + r.Intn(255))
	}
	return string(b)
}

// open opens a store that can be opened.
func open(t *testing.T, d *sector.Disk) *store.Store {
	t.Helper()
	s, err := store.Open(d)
	if s == nil || err != api.OK {
		t.Fatalf("Open: %v, %d", s != nil, err)
	}
	return s
}

// made is a disk with a new store of so many files' sectors on it, and this one opened.
func made(t *testing.T, room int) (*sector.Disk, *store.Store) {
	t.Helper()
	d := sector.New(80 + room)
	isErr(t, "Format", store.Format(d), api.OK)
	return d, open(t, d)
}

// model is what the chapter says of a store, without a disk.
type model struct {
	room  int
	files map[string]string
}

func sectorsOf(size int) int { return size/256 + (size%256+255)/256 }

func (m model) free() int {
	free := m.room
	for _, s := range m.files {
		free -= sectorsOf(len(s))
	}
	return free
}

// places are those of a file's sectors in which the bytes from one on up to another one lie.
func places(name string, from, end int) (all []string) {
	for i := from; i < end; i++ {
		all = append(all, fmt.Sprint(name, " ", i/256))
	}
	return slices.Compact(all)
}

// change is the file that a change leads to, and what it touches; the sectors are not counted yet.
func (m model) change(op api.FileOp) (now string, touches []string, err api.Errno) {
	had, is := m.files[op.Name]
	isNone := op.Name == "" || len(op.Name) > 12 || strings.ContainsFunc(op.Name, func(r rune) bool {
		return !(r >= 'a' && r <= 'z' || r >= '0' && r <= '9' || r == '.' || r == '-')
	})
	switch {
	case isNone || op.Kind < 1 || op.Kind > 5:
		return "", nil, api.ErrArg
	case op.Kind == api.FileMake && is:
		return "", nil, api.ErrState
	case op.Kind == api.FileMake && len(m.files) == 32:
		return "", nil, api.ErrFull
	case op.Kind != api.FileMake && !is:
		return "", nil, api.ErrNone
	}
	switch op.Kind {
	case api.FileAppend:
		now = had + op.Data
		return now, places(op.Name, len(had), len(now)), api.OK
	case api.FileTrim:
		if op.N < 0 || op.N > len(had) {
			return "", nil, api.ErrArg
		}
		return had[:op.N], places(op.Name, op.N, len(had)), api.OK
	case api.FileDrop:
		if had != "" {
			return "", nil, api.ErrState
		}
	case api.FileSet:
		now = op.Data
		return now, places(op.Name, 0, max(len(had), len(now))), api.OK
	}
	return "", nil, api.OK
}

// do is the model behind a call, or as it was, with the call's error.
func (m model) do(ops ...api.FileOp) (model, api.Errno) {
	next := model{m.room, maps.Clone(m.files)}
	touched := map[string]bool{}
	for _, op := range ops {
		now, touches, err := next.change(op)
		if err != api.OK {
			return m, err
		}
		if sectorsOf(len(now))-sectorsOf(len(next.files[op.Name])) > next.free() {
			return m, api.ErrFull
		}
		for _, place := range touches {
			touched[place] = true
		}
		if len(touched) > 40 {
			return m, api.ErrSize
		}
		if op.Kind == api.FileDrop {
			delete(next.files, op.Name)
		} else {
			next.files[op.Name] = now
		}
	}
	return next, api.OK
}

// sectorOf is a sector of that byte.
func sectorOf(c byte) string { return strings.Repeat(string([]byte{c}), 256) }

// full is the bytes of a file's sectors.
func full(data string) (all []string) {
	data += strings.Repeat("\x00", 255)
	for i := range len(data) / 256 {
		all = append(all, data[i*256:][:256])
	}
	return all
}

// differs is in what a store does not tell what the model says; or nothing.
func (m model) differs(s *store.Store) string {
	names := slices.Sorted(maps.Keys(m.files))
	if got := s.Names(); !slices.Equal(got, names) {
		return fmt.Sprint("Names: ", got, ", want ", names)
	}
	if s.Room() != m.room || s.Free() != m.free() || s.Lost() != 0 {
		return fmt.Sprint("Room ", s.Room(), ", Free ", s.Free(), ", Lost ", s.Lost(), "; want ", m.room, ", ", m.free(), ", 0")
	}
	for name, want := range m.files {
		if n, err := s.Size(name); n != len(want) || err != api.OK {
			return fmt.Sprint("Size of ", name, ": ", n, ", ", int(err), ", want ", len(want))
		}
		if got, err := s.Read(name, 0, 1<<40); got != want || err != api.OK {
			return fmt.Sprintf("Read of %s: %.9q and so on, %d bytes, %d, want %.9q, %d", name, got, len(got), err, want, len(want))
		}
	}
	return ""
}

// lies is in what the files' sectors of a disk are not those that the model's files have, and bytes 0; or nothing. Where they lie, the chapter leaves open.
func (m model) lies(d *sector.Disk) string {
	var want, got []string
	for _, data := range m.files {
		want = append(want, full(data)...)
	}
	for range m.free() {
		want = append(want, sectorOf(0))
	}
	for at := 80; at < d.Sectors(); at++ {
		s, err := d.Read(at)
		if err != api.OK {
			return "no power"
		}
		got = append(got, s)
	}
	slices.Sort(want)
	slices.Sort(got)
	if !slices.Equal(got, want) {
		return "the files' sectors have other bytes"
	}
	return ""
}

// holds fails if a store, or what lies on its disk, is not as the model says.
func (m model) holds(t *testing.T, what string, d *sector.Disk, s *store.Store) {
	t.Helper()
	for _, wrong := range []string{m.differs(s), m.lies(d)} {
		if wrong != "" {
			t.Errorf("%s: %s", what, wrong)
		}
	}
}

// both a store and its model, which go on together.
type pair struct {
	d *sector.Disk
	s *store.Store
	m model
}

// pairOf is a new store, with the files that those changes lead to, of which each may be a call.
func pairOf(t *testing.T, room int, calls ...[]api.FileOp) *pair {
	t.Helper()
	d, s := made(t, room)
	p := &pair{d, s, model{room, map[string]string{}}}
	for _, ops := range calls {
		p.do(t, "ahead", api.OK, ops...)
	}
	return p
}

// do makes a call, and fails if it has another error, or leads to anything else than the model says; also when it is opened again.
func (p *pair) do(t *testing.T, what string, want api.Errno, ops ...api.FileOp) {
	t.Helper()
	next, err := p.m.do(ops...)
	isErr(t, what+": the model", err, want)
	steps := p.d.Steps()
	isErr(t, what, p.s.Do(ops...), want)
	if want != api.OK && p.d.Steps() != steps {
		t.Errorf("%s: %d steps were done", what, p.d.Steps()-steps)
	}
	p.m = next
	p.m.holds(t, what, p.d, p.s)
	p.d.Crash()
	p.s = open(t, p.d)
	p.m.holds(t, what+", opened again", p.d, p.s)
}
