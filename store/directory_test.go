package store

import (
	"fmt"
	"maps"
	"math/rand"
	"slices"
	"strings"
	"testing"

	"scrinium/api"
	"scrinium/octet"
	"scrinium/redo"
	"scrinium/sector"
)

// textOf is a directory by hand: a mark and numbers, and texts among them.
func textOf(parts ...any) string {
	var b strings.Builder
	for _, p := range parts {
		switch x := p.(type) {
		case int:
			b.WriteString(octet.Put(uint64(x)))
		case string:
			b.WriteString(x)
		}
	}
	return b.String()
}

// opens is what Open tells of a disk of 90 sectors on which that text lies in the directory's.
func opens(t *testing.T, text string) (*Store, api.Errno) {
	t.Helper()
	d := sector.New(90)
	if err := redo.Format(d, 0, 64); err != api.OK {
		t.Fatal(err)
	}
	for i, s := range cut(text, 16) {
		if err := d.Write(64+i, s); err != api.OK {
			t.Fatal(err)
		}
	}
	return Open(d)
}

// P8.1: what lies there is no directory: by each of its parts.
func TestNoDirectory(t *testing.T) {
	a, b := octet.Text("a"), octet.Text("b")
	many := []any{"SCS", 33}
	for i := range 33 {
		many = append(many, octet.Text(fmt.Sprintf("%02d", i)), 0, 0)
	}
	for what, text := range map[string]string{
		"nothing":                        "",
		"the mark alone":                 "SCS\x01", // a number that is cut off, or has a second form
		"no mark":                        textOf(1, a, 1, 1, 80, 1),
		"another mark":                   textOf("SCH", 1, a, 1, 1, 80, 1),
		"more behind it":                 textOf("SCS", 0, 1),
		"a file missing":                 textOf("SCS", 2, a, 1, 1, 80, 1),
		"a name of no bytes":             textOf("SCS", 1, octet.Text(""), 0, 0),
		"a name of other bytes":          textOf("SCS", 1, octet.Text("A"), 0, 0),
		"a name of 13 bytes":             textOf("SCS", 1, octet.Text("thirteenbytes"), 0, 0),
		"a name twice":                   textOf("SCS", 2, a, 0, 0, a, 0, 0),
		"names that fall":                textOf("SCS", 2, b, 0, 0, a, 0, 0),
		"33 files":                       textOf(many...),
		"too few sectors":                textOf("SCS", 1, a, 257, 1, 80, 1),
		"no sectors":                     textOf("SCS", 1, a, 1, 0),
		"too many sectors":               textOf("SCS", 1, a, 256, 1, 80, 2),
		"sectors of no bytes":            textOf("SCS", 1, a, 0, 1, 80, 1),
		"a run of none":                  textOf("SCS", 1, a, 1, 2, 80, 1, 82, 0),
		"an empty run of none":           textOf("SCS", 1, a, 0, 1, 80, 0),
		"a sector of the directory":      textOf("SCS", 1, a, 1, 1, 79, 1),
		"a sector of the journal":        textOf("SCS", 1, a, 1, 1, 0, 1),
		"a sector behind the disk":       textOf("SCS", 1, a, 1, 1, 90, 1),
		"sectors over the disk's end":    textOf("SCS", 1, a, 300, 1, 89, 2),
		"sectors over its beginning":     textOf("SCS", 1, a, 300, 1, 79, 2),
		"a sector far behind it":         textOf("SCS", 1, a, 1, 1, 65535, 1),
		"a number of 63 bits":            textOf("SCS", 1, a, 1, 1, 1<<63-1, 1),
		"runs of 63 bits":                textOf("SCS", 1, a, 1, 1<<63-1, 80, 1),
		"a size of 63 bits":              textOf("SCS", 1, a, 1<<63-1, 1, 80, 1),
		"a sector twice":                 textOf("SCS", 1, a, 300, 2, 80, 1, 80, 1),
		"runs over each other":           textOf("SCS", 1, a, 900, 2, 80, 2, 81, 2),
		"a sector of two files":          textOf("SCS", 2, a, 1, 1, 80, 1, b, 1, 1, 80, 1),
		"a number in another way":        textOf("SCS", 1, a, 1, 1, "\x02\x00\x50", 1),
		"files without an end":           textOf("SCS", 32, strings.Repeat("\x01a\x00\x00", 1000)),
		"runs without an end":            textOf("SCS", 1, a, 100, strings.Repeat("\x02\x01\xf4", 1300)),
		"all sectors full, runs missing": textOf("SCS", 2, a, 0, 500, strings.Repeat("\x02\x01\xf4", 1000), b, 0, 200, strings.Repeat("\x02\x01\xf4", 359), 0),
		"all sectors full, no mark":      textOf(2, a, 0, 500, strings.Repeat("\x02\x01\xf4", 1000), b, 0, 180, strings.Repeat("\x02\x01\xf4", 360)),
	} {
		if s, err := opens(t, text); s != nil || err != api.ErrForm {
			t.Errorf("%s: Open: %v, %d", what, s != nil, err)
		}
	}
}

// P8.1: and what is one.
func TestDirectoriesByHand(t *testing.T) {
	a, b := octet.Text("a"), octet.Text("b")
	for what, c := range map[string]struct {
		text string
		free int
	}{
		"no files":          {textOf("SCS", 0), 10},
		"empty files":       {textOf("SCS", 2, a, 0, 0, b, 0, 0), 10},
		"all of the disk":   {textOf("SCS", 1, a, 2560, 1, 80, 10), 0},
		"both ends of it":   {textOf("SCS", 2, a, 1, 1, 89, 1, b, 256, 1, 80, 1), 8},
		"runs that go down": {textOf("SCS", 1, a, 700, 3, 88, 1, 84, 1, 82, 1), 7},
		"runs that touch":   {textOf("SCS", 1, a, 700, 2, 82, 2, 84, 1), 7},
	} {
		s, err := opens(t, c.text)
		if err != api.OK || s.Free() != c.free || s.Lost() != 0 {
			t.Errorf("%s: Open: %d, Free %d, Lost %d", what, err, s.Free(), s.Lost())
			continue
		}
		before := s.Names()
		err = s.Do(api.FileOp{Kind: api.FileMake, Name: "c"}, api.FileOp{Kind: api.FileDrop, Name: "c"}, api.FileOp{Kind: api.FileMake, Name: "d"})
		again, openErr := Open(s.disk)
		if err != api.OK || openErr != api.OK || !slices.Equal(again.Names(), append(before, "d")) {
			t.Errorf("%s: Do: %d, then Open: %d, %q", what, err, openErr, again.Names())
		}
	}
}

// The directory of the most scattered files there may be has room.
func TestMostOfADirectory(t *testing.T) {
	files := map[string]file{}
	next := 80
	for i := range 32 {
		f := file{size: 128000}
		if i == 0 {
			f.size = 0
		}
		for range 500 / 32 {
			f.at = append(f.at, api.Run{At: next, N: 1})
			next++
		}
		files[fmt.Sprintf("%012d", i)] = f
	}
	first := files["000000000000"]
	for next < 580 {
		first.at = append(first.at, api.Run{At: next, N: 1})
		next++
	}
	first.size = 128000
	files["000000000000"] = first
	l := directory(files)
	if len(l) != 16 || slices.ContainsFunc(l, func(s string) bool { return len(s) != 256 }) {
		t.Errorf("%d sectors", len(l))
	}
}

// checkDirectory holds what is told of any text against what a directory is.
func checkDirectory(t *testing.T, text string, sectors int) {
	t.Helper()
	text = strings.Join(cut(text[:min(len(text), 4096)], 16), "")
	files, is := filesOf(text, sectors)
	if !is {
		return
	}
	if strings.Join(directory(files), "") != text {
		t.Errorf("%q: told %v", text, files)
	}
	has := map[int]int{}
	for name, f := range files {
		n := 0
		for _, r := range f.at {
			for at := r.At; at < r.At+r.N; at++ {
				has[at]++
				n++
				if at < 80 || at >= sectors || has[at] > 1 {
					t.Errorf("%q: sector %d, %d times", text, at, has[at])
				}
			}
		}
		if !Name(name) || n != (f.size+255)/256 {
			t.Errorf("%q: %q has %d sectors of %d bytes", text, name, n, f.size)
		}
	}
}

// P8.1, P1: of right directories in which bytes are turned, none is told that can't be.
func TestTurnedDirectories(t *testing.T) {
	r := rand.New(rand.NewSource(1))
	right := strings.Join(directory(map[string]file{
		"a": {700, []api.Run{{At: 85, N: 2}, {At: 81, N: 1}}}, "b": {}, "meta": {3, []api.Run{{At: 90, N: 1}}}, "l00": {512, []api.Run{{At: 91, N: 2}}},
	}), "")
	if _, is := filesOf(right, 100); !is {
		t.Fatal("it is no directory")
	}
	end := len(strings.TrimRight(right, "\x00"))
	for i := range end + 2 {
		for c := range 256 {
			b := []byte(right)
			b[i] = byte(c)
			checkDirectory(t, string(b), 100)
			b[r.Intn(end)] = byte(r.Intn(4))
			checkDirectory(t, string(b), 100)
		}
	}
}

func FuzzDirectories(f *testing.F) {
	files := map[string]file{"a": {700, []api.Run{{At: 85, N: 2}, {At: 81, N: 1}}}, "b": {}}
	f.Add(strings.TrimRight(strings.Join(directory(files), ""), "\x00"))
	clear(files)
	f.Add(directory(files)[0])
	maps.Copy(files, map[string]file{"x": {128000, []api.Run{{At: 80, N: 500}}}})
	f.Add(directory(files)[0])
	f.Fuzz(func(t *testing.T, text string) { checkDirectory(t, text, 580) })
}
